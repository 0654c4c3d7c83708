/-
  Texts of one family, laid together: DiaMath, DiaBoth, DiaRef.
-/
import Derived.Test.YtnbllngljgmebaaDoorPackSch
import Derived.Test.YtnbllngljgmebaaDoorPackBase

/-
  The two dialects, over lists alone: their specs, the table out of which the document makes them, the fields that nothing loses. (Plain functions.)
-/
namespace Go.Proofs.YtnbllngljgmebaaDoor
open Go.Lib

def acqL : List Sp := [(2, 1, 2, 12, 19), (3, 1, 1, 6, 6), (4, 1, 1, 12, 12), (7, 1, 1, 10, 10), (11, 1, 1, 6, 6), (12, 1, 1, 6, 6), (13, 1, 1, 4, 4), (14, 1, 1, 4, 4), (18, 1, 1, 4, 4), (22, 1, 1, 3, 3), (23, 1, 1, 3, 3), (32, 1, 2, 1, 11), (35, 4, 2, 1, 37), (37, 3, 1, 12, 12), (38, 3, 1, 6, 6), (39, 3, 1, 2, 2), (41, 4, 1, 8, 8), (42, 4, 1, 15, 15), (43, 4, 1, 40, 40), (48, 4, 3, 1, 999), (49, 1, 1, 3, 3), (52, 5, 1, 8, 8), (55, 6, 3, 1, 255), (64, 5, 1, 8, 8), (70, 1, 1, 3, 3), (90, 1, 1, 42, 42), (102, 4, 2, 1, 28), (128, 5, 1, 8, 8)]
def issL : List Sp := [(2, 1, 2, 12, 19), (3, 1, 1, 6, 6), (4, 1, 1, 12, 12), (7, 1, 1, 10, 10), (11, 1, 1, 6, 6), (12, 1, 1, 12, 12), (14, 1, 1, 4, 4), (22, 3, 1, 12, 12), (23, 1, 1, 3, 3), (26, 1, 1, 4, 4), (32, 1, 2, 1, 11), (35, 4, 2, 1, 37), (37, 3, 1, 12, 12), (38, 3, 1, 6, 6), (39, 1, 1, 3, 3), (41, 4, 1, 8, 8), (42, 4, 1, 15, 15), (43, 4, 2, 1, 99), (48, 4, 3, 1, 999), (49, 1, 1, 3, 3), (52, 5, 1, 8, 8), (55, 6, 3, 1, 255), (64, 5, 1, 8, 8), (70, 1, 1, 3, 3), (102, 4, 2, 1, 28), (128, 5, 1, 8, 8)]
/-- The document's table: a field, the acquirer's class, form, least and greatest length, and the issuer's; class 0: none. -/
def diaT : List (List Int) := [[2, 1, 2, 12, 19, 1, 2, 12, 19], [3, 1, 1, 6, 6, 1, 1, 6, 6], [4, 1, 1, 12, 12, 1, 1, 12, 12], [7, 1, 1, 10, 10, 1, 1, 10, 10], [11, 1, 1, 6, 6, 1, 1, 6, 6], [12, 1, 1, 6, 6, 1, 1, 12, 12], [13, 1, 1, 4, 4, 0, 0, 0, 0], [14, 1, 1, 4, 4, 1, 1, 4, 4], [18, 1, 1, 4, 4, 0, 0, 0, 0], [22, 1, 1, 3, 3, 3, 1, 12, 12], [23, 1, 1, 3, 3, 1, 1, 3, 3], [26, 0, 0, 0, 0, 1, 1, 4, 4], [32, 1, 2, 1, 11, 1, 2, 1, 11], [35, 4, 2, 1, 37, 4, 2, 1, 37], [37, 3, 1, 12, 12, 3, 1, 12, 12], [38, 3, 1, 6, 6, 3, 1, 6, 6], [39, 3, 1, 2, 2, 1, 1, 3, 3], [41, 4, 1, 8, 8, 4, 1, 8, 8], [42, 4, 1, 15, 15, 4, 1, 15, 15], [43, 4, 1, 40, 40, 4, 2, 1, 99], [48, 4, 3, 1, 999, 4, 3, 1, 999], [49, 1, 1, 3, 3, 1, 1, 3, 3], [52, 5, 1, 8, 8, 5, 1, 8, 8], [55, 6, 3, 1, 255, 6, 3, 1, 255], [64, 5, 1, 8, 8, 5, 1, 8, 8], [70, 1, 1, 3, 3, 1, 1, 3, 3], [90, 1, 1, 42, 42, 0, 0, 0, 0], [102, 4, 2, 1, 28, 4, 2, 1, 28], [128, 5, 1, 8, 8, 5, 1, 8, 8]]
def losL : List Int := [2, 3, 4, 7, 11, 12, 14, 23, 32, 35, 37, 38, 41, 42, 49, 52, 55, 64, 70, 102, 128]
theorem diaT_len : diaT.length = 29 := rfl
theorem acq_len : acqL.length = 28 := rfl
theorem iss_len : issL.length = 26 := rfl

/-- A row of the table, in one dialect. -/
def rowSp (q : Nat) (r : List Int) : Sp := (r.getD 0 0, r.getD (1 + 4 * q) 0, r.getD (2 + 4 * q) 0, r.getD (3 + 4 * q) 0, r.getD (4 + 4 * q) 0)
/-- The specs that rows of the table make. -/
def refL (q : Nat) (T : List (List Int)) : List Sp := (T.filter fun r => decide (0 < r.getD (1 + 4 * q) 0)).map (rowSp q)
theorem ref_acq : refL 0 diaT = acqL := by decide
theorem ref_iss : refL 1 diaT = issL := by decide
theorem refL_snoc (q : Nat) (T : List (List Int)) (r : List Int) : refL q (T ++ [r]) = refL q T ++ (if 0 < r.getD (1 + 4 * q) 0 then [rowSp q r] else []) := by
  unfold refL
  rw [List.filter_append, List.map_append, List.filter_cons, List.filter_nil]
  by_cases h : 0 < r.getD (1 + 4 * q) 0
  · rw [if_pos (decide_eq_true h), if_pos h]; rfl
  · rw [if_neg (by simpa using h), if_neg h]; rfl
theorem refL_length (q : Nat) (T : List (List Int)) : (refL q T).length ≤ T.length := by
  unfold refL
  rw [List.length_map]
  exact List.length_filter_le _ _
def diaR (k : Nat) : List Int := diaT.getD k []
theorem take_dia {k : Nat} (h : k < 29) : diaT.take (k + 1) = diaT.take k ++ [diaR k] := by
  have h' : k < diaT.length := h
  rw [List.take_succ_eq_append_getElem h']
  simp [diaR, List.getD, h']
theorem dia_part (q k : Nat) (h : k ≤ 29) : (refL q (diaT.take k)).length ≤ 29 := Nat.le_trans (refL_length _ _) (by simp; omega)

/-- A dialect: its style, its version and its specs. -/
def dlist : Bool → List Sp
  | false => acqL
  | true => issL
def dstyle : Bool → Int
  | false => 1
  | true => 2
def dver : Bool → Int
  | false => 0
  | true => 1
theorem dia_right (b : Bool) : (schN (dstyle b) (dver b) (dlist b)).1 = 0 := by cases b <;> decide +kernel
theorem dia_len (b : Bool) : (dlist b).length ≤ 1000 := by cases b <;> decide
theorem los_high : ofH losL = 8229204623181779457 := by decide +kernel
theorem los_low : ofL losL = 288230376218820609 := by decide +kernel
theorem los_in : ∀ n ∈ losL, 1 ≤ n ∧ n ≤ 128 := by decide
theorem los_has (n : Int) : hasN (ofH losL) (ofL losL) n = decide (n ∈ losL) := by
  rw [has_of, decide_eq_decide]
  exact ⟨fun h => h.1, fun h => ⟨h, los_in n h⟩⟩
theorem los_both : ∀ n ∈ losL, (fndP n acqL).2 = true ∧ (fndP n issL).2 = true ∧ (fndP n acqL).1.2.1 = (fndP n issL).1.2.1 ∧ (n = 12 ∨ (fndP n acqL).1 = (fndP n issL).1) := by decide +kernel

end Go.Proofs.YtnbllngljgmebaaDoor

/-
  What the document's table is: in every world.
-/
namespace Go.Proofs.YtnbllngljgmebaaDoor
open Go.RowKit

/-- Blocks made one behind the other. -/
def allocs : World → List Obj → World
  | w, [] => w
  | w, o :: r => allocs (w.alloc o) r
theorem allocs_below : ∀ (l : List Obj) (w : World), Below w.heap.size w (allocs w l)
  | [], _ => Below.refl _ _
  | o :: r, w => hbt (below_al w o) (allocs_below r (w.alloc o))
theorem allocs_at : ∀ (l : List Obj) (w : World) (i : Nat) (o : Obj), l[i]? = some o → (allocs w l).heap[w.heap.size + i]? = some o
  | [], _, _, _, h => by simp at h
  | x :: r, w, 0, o, h => by
    have hx : x = o := by simpa using h
    subst hx
    exact obj_below (heap_alloc_new w x) (allocs_below r (w.alloc x))
  | x :: r, w, i + 1, o, h => by
    have := allocs_at r (w.alloc x) i o (by simpa using h)
    rwa [show (w.alloc x).heap.size + i = w.heap.size + (i + 1) by simp; omega] at this

def diaO (k : Nat) : Obj := .cells ((diaR k).map fun z => Value.int .i64 z).toArray 3
def diaS (n : Nat) : Obj := .cells ((List.range 29).map fun i => Value.slice (some ⟨n + i, 0, none⟩) 9 9).toArray 29
/-- The table: 29 rows, and behind them the row of rows. -/
def DiaAt (n : Nat) (u : World) : Prop := (∀ k, k < 29 → u.heap[n + k]? = some (diaO k)) ∧ u.heap[n + 29]? = some (diaS n)
theorem DiaAt.keep {n : Nat} {u u' : World} (h : DiaAt n u) (hk : ∀ b, n ≤ b → b < n + 30 → u'.heap[b]? = u.heap[b]?) : DiaAt n u' :=
  ⟨fun k hk' => (hk _ (by omega) (by omega)).trans (h.1 k hk'), (hk _ (by omega) (by omega)).trans h.2⟩
theorem DiaAt.lt {n : Nat} {u : World} (h : DiaAt n u) : n + 30 ≤ u.heap.size := by
  have := obj_lt h.2
  omega
theorem dia_nine : ∀ k, k < 29 → (diaR k).length = 9 := by decide
theorem DiaAt.cell {n : Nat} {u : World} (h : DiaAt n u) {k : Nat} (hk : k < 29) (j : Nat) (hj : j < 9) : u.cell? ⟨n + k, j, none⟩ = some (.int .i64 ((diaR k).getD j 0)) := by
  rw [cell_of_row u _ j _ _ _ (h.1 k hk)]
  have : j < (diaR k).length := by rw [dia_nine k hk]; exact hj
  simp [List.getD, this]
theorem DiaAt.row {n : Nat} {u : World} (h : DiaAt n u) {k : Nat} (hk : k < 29) : u.cell? ⟨n + 29, k, none⟩ = some (.slice (some ⟨n + k, 0, none⟩) 9 9) := by
  rw [cell_of_row u _ k _ _ _ h.2]
  simp [hk]
def diaAll (n : Nat) : List Obj := (List.range 29).map diaO ++ [diaS n]
theorem dia_laid (w : World) : DiaAt w.heap.size (allocs w (diaAll w.heap.size)) := by
  refine ⟨fun k hk => allocs_at _ w k _ ?_, allocs_at _ w 29 _ ?_⟩
  · rw [diaAll, List.getElem?_append_left (by simpa using hk)]
    simp [hk]
  · rw [diaAll, List.getElem?_append_right (by simp)]
    simp

set_option maxRecDepth 100000 in
set_option maxHeartbeats 6400000 in
theorem both_tab (w : World) :
    Calls Tryd.prog 49 #[] w fun e w' => ∃ n, e = .returned (.slice (some ⟨n + 29, 0, none⟩) 29 29) ∧ w.heap.size ≤ n ∧ DiaAt n w' ∧ Below w.heap.size w w' := by
  have HL := Lib.hid (dia_laid w)
  have HB := Lib.hid (allocs_below (diaAll w.heap.size) w)
  go_enter Tryd.func49, Tryd.ntmps49
  go_wp2
  go_ret
  exact ⟨w.heap.size, rfl, Nat.le_refl _, HL.out, HB.out⟩

end Go.Proofs.YtnbllngljgmebaaDoor

/-
  What the document's dialects are: in every world.
-/
namespace Go.Proofs.YtnbllngljgmebaaDoor
open Go.RowKit

theorem DiaAt.below {n : Nat} {u u' : World} (h : DiaAt n u) (hb : Below u.heap.size u u') : DiaAt n u' := h.keep fun b _ h2 => hb.block b (by have := h.lt; omega)
theorem own_far {w : World} {base e size n cap : Nat} {A : Option Addr} {xs : List Value} (h : w.ownsRow base e size (.slice A n cap) n xs) : ∀ a, A = some a → base ≤ a.block := by
  intro a ha
  subst ha
  rcases h.2 with ⟨hv, _⟩ | ⟨g, c, cur, hv, hb, _⟩
  · injection hv with h1
    cases h1
  · injection hv with h1
    injection h1 with h1
    subst h1
    exact hb
/-- Room for a schema in a block. -/
def Room3 (u : World) (p : Nat) : Prop := u.heap[p]? = some (.cells #[.int .i64 0, .int .i64 0, .slice none 0 0] 24)
/-- What the loop keeps: the schema so far, in its block and a row of the call's own; the table; room for the answer. -/
def Made (w U : World) (g n : Nat) (st v : Int) (kl : List Sp) (u : World) : Prop :=
  ∃ (Y : Option Addr) (cp : Nat), Box u g st v Y kl.length cp ∧ u.ownsRow U.heap.size 67 5 (.slice Y kl.length cp) kl.length (spsC kl) ∧ DiaAt n u ∧ Room3 u w.heap.size ∧ Below w.heap.size w u ∧ U.heap.size ≤ u.heap.size

set_option maxRecDepth 100000 in
set_option maxHeartbeats 6400000 in
theorem refsch_0 (w : World) :
    Calls Tryd.prog 26 #[.int .i64 0] w fun e w' => ∃ A cap, e = .returned (.agg #[.int .i64 1, .int .i64 0, .slice A (refL 0 diaT).length cap]) ∧ Spl w' A (refL 0 diaT) ∧ (∀ a, A = some a → w.heap.size ≤ a.block) ∧ Below w.heap.size w w' := by
  obtain ⟨i0, hi, hz0, hz1, hz2⟩ := info_parts Tryd.infoSpec
  go_enter Tryd.func26, Tryd.ntmps26
  go_wp2_with fail
  refine (both_tab _).mono ?_
  rintro e U ⟨n, rfl, hn, hd, hb⟩
  have HD := Lib.hid hd
  have HX := Lib.hid ((show Box ((w.alloc (.cells #[.int .i64 0, .int .i64 0, .slice none 0 0] 24)).alloc (.cells #[.int .i64 1, .int .i64 0, .slice none 0 0] 24)) (w.heap.size + 1) 1 0 none 0 0 from heap_al _ _ _ (by simp)).below hb)
  have HM : Hid (Room3 U w.heap.size) := obj_below (obj_below (heap_alloc_new w _) (below_al _ _)) hb
  have HB := Lib.hid (hbt (hbt (below_al _ _) (below_al _ _)) hb)
  have hn2 : w.heap.size + 2 ≤ n := by simpa using hn
  have HN := Lib.hid hn2
  have HL := Lib.hid hd.lt
  clear hd hb hn hn2
  go_wp2
  go_loopw [5] (fun i wr => ∃ k : Nat, k ≤ 29 ∧ i = .int .i64 (k : Int) ∧ Made w U (w.heap.size + 1) n 1 0 (refL 0 (diaT.take k)) wr) (fun i _ => 29 - (intOf i).toNat)
  case atStart => exact ⟨0, Nat.zero_le _, rfl, none, 0, HX.out, World.ownsRow_nil _ _ _ _, HD.out, HM.out, HB.out, Nat.le_refl _⟩
  case round =>
    obtain ⟨k, hk, rfl, Y, cp, hbox, hown, hd, hroom, hb, hsz⟩ := hrel
    have HX := Lib.hid hbox
    have HO := Lib.hid hown
    have HD := Lib.hid hd
    have HM := Lib.hid hroom
    have HB := Lib.hid hb
    have HZ := Lib.hid hsz
    clear hbox hown hd hroom hb hsz
    by_cases hlt : k < 29
    · have hst : refL 0 (diaT.take (k + 1)) = refL 0 (diaT.take k) ++ (if 0 < (diaR k).getD 1 0 then [((diaR k).getD 0 0, (diaR k).getD 1 0, (diaR k).getD 2 0, (diaR k).getD 3 0, (diaR k).getD 4 0)] else []) := by
        rw [take_dia hlt]; exact refL_snoc 0 _ _
      have hkn := dia_part 0 k (by omega)
      have HR := Lib.hid (fun (u : World) (h : DiaAt n u) => h.row hlt)
      have H0 := Lib.hid (fun (u : World) (h : DiaAt n u) => h.cell hlt 0 (by omega))
      have H1 := Lib.hid (fun (u : World) (h : DiaAt n u) => h.cell hlt 1 (by omega))
      have H2 := Lib.hid (fun (u : World) (h : DiaAt n u) => h.cell hlt 2 (by omega))
      have H3 := Lib.hid (fun (u : World) (h : DiaAt n u) => h.cell hlt 3 (by omega))
      have H4 := Lib.hid (fun (u : World) (h : DiaAt n u) => h.cell hlt 4 (by omega))
      generalize n + k = b at *
      generalize n + 29 = tb at *
      generalize (diaR k).getD 0 0 = z0 at *
      generalize (diaR k).getD 1 0 = z1 at *
      generalize (diaR k).getD 2 0 = z2 at *
      generalize (diaR k).getD 3 0 = z3 at *
      generalize (diaR k).getD 4 0 = z4 at *
      generalize refL 0 (diaT.take k) = ks at *
      have hr := HR.out _ HD.out
      have h1 := H1.out _ HD.out
      by_cases hz : 0 < z1
      · have tz : decide (0 < z1) = true := decide_eq_true hz
        have HST := Lib.hid (hst.trans (by rw [if_pos hz]))
        clear hst hz
        generalize hm : ks.length = m at *
        have HMM := Lib.hid hm
        clear hm
        go_wp2_with fail
        refine wp_region_noPanic ?_
        refine wp_region_late (fun u => Box u (w.heap.size + 1) 1 0 Y m cp ∧ DiaAt n u) 24 (by kernel_rfl) ((show Box wr _ _ _ _ _ _ ∧ DiaAt n wr from ⟨HX.out, HD.out⟩)) (fun hT => ?_)
        refine lv 0 (v := ?_) (fun u hu => ?_) hT ?_
        rotate_left
        · ((rcases hu with ⟨hu1, hu2⟩; obtain ⟨b0, b1, b2⟩ := obj_cells3 hu1; have r0 := HR.out _ hu2; have c0 := H0.out _ hu2; have c1 := H1.out _ hu2; have c2 := H2.out _ hu2; have c3 := H3.out _ hu2; have c4 := H4.out _ hu2; clear hu1 hu2); go_simp; try (with_reducible rfl))
        try simp only [puts]
        refine lv 1 (v := ?_) (fun u hu => ?_) hT ?_
        rotate_left
        · ((rcases hu with ⟨hu1, hu2⟩; obtain ⟨b0, b1, b2⟩ := obj_cells3 hu1; have r0 := HR.out _ hu2; have c0 := H0.out _ hu2; have c1 := H1.out _ hu2; have c2 := H2.out _ hu2; have c3 := H3.out _ hu2; have c4 := H4.out _ hu2; clear hu1 hu2); go_simp; try (with_reducible rfl))
        try simp only [puts]
        refine lv 2 (v := ?_) (fun u hu => ?_) hT ?_
        rotate_left
        · ((rcases hu with ⟨hu1, hu2⟩; obtain ⟨b0, b1, b2⟩ := obj_cells3 hu1; have r0 := HR.out _ hu2; have c0 := H0.out _ hu2; have c1 := H1.out _ hu2; have c2 := H2.out _ hu2; have c3 := H3.out _ hu2; have c4 := H4.out _ hu2; clear hu1 hu2); go_simp; try (with_reducible rfl))
        try simp only [puts]
        refine lv 3 (v := ?_) (fun u hu => ?_) hT ?_
        rotate_left
        · ((rcases hu with ⟨hu1, hu2⟩; obtain ⟨b0, b1, b2⟩ := obj_cells3 hu1; have r0 := HR.out _ hu2; have c0 := H0.out _ hu2; have c1 := H1.out _ hu2; have c2 := H2.out _ hu2; have c3 := H3.out _ hu2; have c4 := H4.out _ hu2; clear hu1 hu2); go_simp; try (with_reducible rfl))
        try simp only [puts]
        refine lv 4 (v := ?_) (fun u hu => ?_) hT ?_
        rotate_left
        · ((rcases hu with ⟨hu1, hu2⟩; obtain ⟨b0, b1, b2⟩ := obj_cells3 hu1; have r0 := HR.out _ hu2; have c0 := H0.out _ hu2; have c1 := H1.out _ hu2; have c2 := H2.out _ hu2; have c3 := H3.out _ hu2; have c4 := H4.out _ hu2; clear hu1 hu2); go_simp; try (with_reducible rfl))
        try simp only [puts]
        refine lv 5 (v := ?_) (fun u hu => ?_) hT ?_
        rotate_left
        · ((rcases hu with ⟨hu1, hu2⟩; obtain ⟨b0, b1, b2⟩ := obj_cells3 hu1; have r0 := HR.out _ hu2; have c0 := H0.out _ hu2; have c1 := H1.out _ hu2; have c2 := H2.out _ hu2; have c3 := H3.out _ hu2; have c4 := H4.out _ hu2; clear hu1 hu2); go_simp; try (with_reducible rfl))
        try simp only [puts]
        refine lv 6 (v := ?_) (fun u hu => ?_) hT ?_
        rotate_left
        · ((rcases hu with ⟨hu1, hu2⟩; obtain ⟨b0, b1, b2⟩ := obj_cells3 hu1; have r0 := HR.out _ hu2; have c0 := H0.out _ hu2; have c1 := H1.out _ hu2; have c2 := H2.out _ hu2; have c3 := H3.out _ hu2; have c4 := H4.out _ hu2; clear hu1 hu2); go_simp; try (with_reducible rfl))
        try simp only [puts]
        refine lv 7 (v := ?_) (fun u hu => ?_) hT ?_
        rotate_left
        · ((rcases hu with ⟨hu1, hu2⟩; obtain ⟨b0, b1, b2⟩ := obj_cells3 hu1; have r0 := HR.out _ hu2; have c0 := H0.out _ hu2; have c1 := H1.out _ hu2; have c2 := H2.out _ hu2; have c3 := H3.out _ hu2; have c4 := H4.out _ hu2; clear hu1 hu2); go_simp; try (with_reducible rfl))
        try simp only [puts]
        refine lv 8 (v := ?_) (fun u hu => ?_) hT ?_
        rotate_left
        · ((rcases hu with ⟨hu1, hu2⟩; obtain ⟨b0, b1, b2⟩ := obj_cells3 hu1; have r0 := HR.out _ hu2; have c0 := H0.out _ hu2; have c1 := H1.out _ hu2; have c2 := H2.out _ hu2; have c3 := H3.out _ hu2; have c4 := H4.out _ hu2; clear hu1 hu2); go_simp; try (with_reducible rfl))
        try simp only [puts]
        refine lv 9 (v := ?_) (fun u hu => ?_) hT ?_
        rotate_left
        · ((rcases hu with ⟨hu1, hu2⟩; obtain ⟨b0, b1, b2⟩ := obj_cells3 hu1; have r0 := HR.out _ hu2; have c0 := H0.out _ hu2; have c1 := H1.out _ hu2; have c2 := H2.out _ hu2; have c3 := H3.out _ hu2; have c4 := H4.out _ hu2; clear hu1 hu2); go_simp; try (with_reducible rfl))
        try simp only [puts]
        refine lv 10 (v := ?_) (fun u hu => ?_) hT ?_
        rotate_left
        · ((rcases hu with ⟨hu1, hu2⟩; obtain ⟨b0, b1, b2⟩ := obj_cells3 hu1; have r0 := HR.out _ hu2; have c0 := H0.out _ hu2; have c1 := H1.out _ hu2; have c2 := H2.out _ hu2; have c3 := H3.out _ hu2; have c4 := H4.out _ hu2; clear hu1 hu2); go_simp; try (with_reducible rfl))
        try simp only [puts]
        refine lv 11 (v := ?_) (fun u hu => ?_) hT ?_
        rotate_left
        · ((rcases hu with ⟨hu1, hu2⟩; obtain ⟨b0, b1, b2⟩ := obj_cells3 hu1; have r0 := HR.out _ hu2; have c0 := H0.out _ hu2; have c1 := H1.out _ hu2; have c2 := H2.out _ hu2; have c3 := H3.out _ hu2; have c4 := H4.out _ hu2; clear hu1 hu2); go_simp; try (with_reducible rfl))
        try simp only [puts]
        refine lv 12 (v := ?_) (fun u hu => ?_) hT ?_
        rotate_left
        · ((rcases hu with ⟨hu1, hu2⟩; obtain ⟨b0, b1, b2⟩ := obj_cells3 hu1; have r0 := HR.out _ hu2; have c0 := H0.out _ hu2; have c1 := H1.out _ hu2; have c2 := H2.out _ hu2; have c3 := H3.out _ hu2; have c4 := H4.out _ hu2; clear hu1 hu2); go_simp; try (with_reducible rfl))
        try simp only [puts]
        refine lv 13 (v := ?_) (fun u hu => ?_) hT ?_
        rotate_left
        · ((rcases hu with ⟨hu1, hu2⟩; obtain ⟨b0, b1, b2⟩ := obj_cells3 hu1; have r0 := HR.out _ hu2; have c0 := H0.out _ hu2; have c1 := H1.out _ hu2; have c2 := H2.out _ hu2; have c3 := H3.out _ hu2; have c4 := H4.out _ hu2; clear hu1 hu2); go_simp; try (with_reducible rfl))
        try simp only [puts]
        refine lv 14 (v := ?_) (fun u hu => ?_) hT ?_
        rotate_left
        · ((rcases hu with ⟨hu1, hu2⟩; obtain ⟨b0, b1, b2⟩ := obj_cells3 hu1; have r0 := HR.out _ hu2; have c0 := H0.out _ hu2; have c1 := H1.out _ hu2; have c2 := H2.out _ hu2; have c3 := H3.out _ hu2; have c4 := H4.out _ hu2; clear hu1 hu2); go_simp; try (with_reducible rfl))
        try simp only [puts]
        refine lv 15 (v := ?_) (fun u hu => ?_) hT ?_
        rotate_left
        · ((rcases hu with ⟨hu1, hu2⟩; obtain ⟨b0, b1, b2⟩ := obj_cells3 hu1; have r0 := HR.out _ hu2; have c0 := H0.out _ hu2; have c1 := H1.out _ hu2; have c2 := H2.out _ hu2; have c3 := H3.out _ hu2; have c4 := H4.out _ hu2; clear hu1 hu2); go_simp; try (with_reducible rfl))
        try simp only [puts]
        refine lv 16 (v := ?_) (fun u hu => ?_) hT ?_
        rotate_left
        · ((rcases hu with ⟨hu1, hu2⟩; obtain ⟨b0, b1, b2⟩ := obj_cells3 hu1; have r0 := HR.out _ hu2; have c0 := H0.out _ hu2; have c1 := H1.out _ hu2; have c2 := H2.out _ hu2; have c3 := H3.out _ hu2; have c4 := H4.out _ hu2; clear hu1 hu2); go_simp; try (with_reducible rfl))
        try simp only [puts]
        refine lv 17 (v := ?_) (fun u hu => ?_) hT ?_
        rotate_left
        · ((rcases hu with ⟨hu1, hu2⟩; obtain ⟨b0, b1, b2⟩ := obj_cells3 hu1; have r0 := HR.out _ hu2; have c0 := H0.out _ hu2; have c1 := H1.out _ hu2; have c2 := H2.out _ hu2; have c3 := H3.out _ hu2; have c4 := H4.out _ hu2; clear hu1 hu2); go_simp; try (with_reducible rfl))
        try simp only [puts]
        refine lv 18 (v := ?_) (fun u hu => ?_) hT ?_
        rotate_left
        · ((rcases hu with ⟨hu1, hu2⟩; obtain ⟨b0, b1, b2⟩ := obj_cells3 hu1; have r0 := HR.out _ hu2; have c0 := H0.out _ hu2; have c1 := H1.out _ hu2; have c2 := H2.out _ hu2; have c3 := H3.out _ hu2; have c4 := H4.out _ hu2; clear hu1 hu2); go_simp; try (with_reducible rfl))
        try simp only [puts]
        refine lv 19 (v := ?_) (fun u hu => ?_) hT ?_
        rotate_left
        · ((rcases hu with ⟨hu1, hu2⟩; obtain ⟨b0, b1, b2⟩ := obj_cells3 hu1; have r0 := HR.out _ hu2; have c0 := H0.out _ hu2; have c1 := H1.out _ hu2; have c2 := H2.out _ hu2; have c3 := H3.out _ hu2; have c4 := H4.out _ hu2; clear hu1 hu2); go_simp; try (with_reducible rfl))
        try simp only [puts]
        refine lv 20 (v := ?_) (fun u hu => ?_) hT ?_
        rotate_left
        · ((rcases hu with ⟨hu1, hu2⟩; obtain ⟨b0, b1, b2⟩ := obj_cells3 hu1; have r0 := HR.out _ hu2; have c0 := H0.out _ hu2; have c1 := H1.out _ hu2; have c2 := H2.out _ hu2; have c3 := H3.out _ hu2; have c4 := H4.out _ hu2; clear hu1 hu2); go_simp; try (with_reducible rfl))
        try simp only [puts]
        refine late_lone (i := 21) rfl (by kernel_rfl) (by rfl) (fun K hK => ?_)
        go_simp
        refine hK.out _ _ (⟨HX.out.below (below_al wr (.cells #[.int .i64 z0, .int .i64 z1, .int .i64 z2, .int .i64 z3, .int .i64 z4] 67)).drew, HD.out.below (below_al wr (.cells #[.int .i64 z0, .int .i64 z1, .int .i64 z2, .int .i64 z3, .int .i64 z4] 67)).drew⟩) ?_
        clear hK
        try simp only [puts]
        refine late_lone (i := 22) rfl (by kernel_rfl) (by rfl) (fun K hK => ?_)
        refine wp_append_lies _ _ _ _ (by rfl) U.heap.size 67 i0 _ 5 40 Tryd.underlying22 hi hz0 hz1 hz2 rfl (by omega) (.slice Y m cp) m (spsC ks) (by rfl) ((HO.out.alloc _).drew) ⟨wr.heap.size, 0, none⟩ 1 1 (spC (z0, z1, z2, z3, z4)) (by rfl) (by rfl) (World.news_of_block (cs := #[.int .i64 z0, .int .i64 z1, .int .i64 z2, .int .i64 z3, .int .i64 z4]) (t := 67) (fr := (0, 0)) (heap_alloc_new wr _)) (by simp [spC, Value.oneCell']) (by omega) (by unfold maxLen; omega) (by omega) (by have := HZ.out; simp; omega) (wr.heap.size + 1) (by simp) ?_
        intro g' cap' w6 hown6 hgrow6 hat6 hlt6
        have hbB : Below U.heap.size wr w6 := (((Below.refl _ _).alloc HZ.out _).drew).grown hgrow6 (by have := HZ.out; simp; omega) (fun q hq => (HO.out.lt q hq).1)
        have HO6 := Lib.hid hown6
        have HB6 := Lib.hid hbB
        have HX6 : Hid (Box w6 (w.heap.size + 1) 1 0 Y m cp) := (hbB.block _ (by have := HL.out; have := HN.out; omega)).trans HX.out
        have HD6 : Hid (DiaAt n w6) := HD.out.keep fun b' _ h2 => hbB.block b' (by have := HL.out; omega)
        have HM6 : Hid (Room3 w6 w.heap.size) := (hbB.block _ (by have := HL.out; have := HN.out; omega)).trans HM.out
        clear hown6 hgrow6 hat6 hlt6 hbB
        refine hK.out _ _ (⟨HX6.out, HD6.out⟩) ?_
        clear hK
        try simp only [puts]
        clear hT
        have hT : Box w6 (w.heap.size + 1) 1 0 Y m cp ∧ DiaAt n w6 := ⟨HX6.out, HD6.out⟩
        refine lv 23 (v := ?_) (fun u hu => ?_) hT ?_
        rotate_left
        · ((rcases hu with ⟨hu1, hu2⟩; obtain ⟨b0, b1, b2⟩ := obj_cells3 hu1; have r0 := HR.out _ hu2; have c0 := H0.out _ hu2; have c1 := H1.out _ hu2; have c2 := H2.out _ hu2; have c3 := H3.out _ hu2; have c4 := H4.out _ hu2; clear hu1 hu2); go_simp; try (with_reducible rfl))
        try simp only [puts]
        refine late_only rfl (by kernel_rfl) (by rfl) (fun K hK => ?_)
        obtain ⟨j0, j1, j2⟩ := obj_cells3 HX6.out
        obtain ⟨f0, f1, f2⟩ := obj_warm3 HX6.out
        go_simp
        refine hK.out _ _ ?_
        clear hK
        try simp only [puts]
        refine late_done (by kernel_rfl) (NoPanic.normal ?_) _
        clear hT j0 j1 j2 f0 f1 f2 hr h1
        go_wp2
        go_roundw
        case rel =>
          refine ⟨k + 1, by omega, by go_num, ?_⟩
          rw [HST.out]
          refine ⟨some ⟨g', 0, none⟩, cap', ?_, ?_, ?_, ?_, ?_, ?_⟩
          · rw [List.length_append, HMM.out]; exact heap_setCell_same _ _ 2 _ _ _ HX6.out
          · rw [spsC_snoc, List.length_append, HMM.out]; exact sowns_set1 HO6.out (by have := HL.out; have := HN.out; omega) _ _
          · exact HD6.out.keep fun b' h1 _ => heap_setCell_other _ _ _ _ (by have := HN.out; simp; omega)
          · exact (heap_setCell_other _ _ _ _ (by simp)).trans HM6.out
          · exact (HB.out.trans (HB6.out.mono (by have := HL.out; have := HN.out; omega))).setCell (p := ⟨w.heap.size + 1, 2, none⟩) (by simp) _
          · have := HB6.out.size; have := HZ.out; simp; omega
        case measure => simp [intOf]; omega
      · have tz : decide (0 < z1) = false := decide_eq_false hz
        have HST := Lib.hid (hst.trans (by rw [if_neg hz, List.append_nil]))
        clear hst hz hkn
        go_wp2
        go_roundw
        case rel => exact ⟨k + 1, by omega, by go_num, by rw [HST.out]; exact ⟨Y, cp, HX.out, HO.out, HD.out, HM.out, HB.out, HZ.out⟩⟩
        case measure => simp [intOf]; omega
    · have hke : k = 29 := by omega
      subst hke
      have he : diaT.take 29 = diaT := List.take_of_length_le (Nat.le_refl _)
      have hx1 := HX.out
      have ho1 := HO.out
      rw [he] at hx1 ho1
      have HXW := Lib.hid hx1
      have HOW := Lib.hid ho1
      generalize hl : refL 0 diaT = L at *
      have HLL := Lib.hid hl
      generalize hm : L.length = m at *
      have HMM := Lib.hid hm
      clear hx1 ho1 HX HO he hl hm
      obtain ⟨x0, x1, x2⟩ := obj_cells3 HXW.out
      obtain ⟨d0, d1, d2⟩ := obj_cells3 HM.out
      obtain ⟨f0, f1, f2⟩ := obj_warm3 HM.out
      go_wp2
      refine bodyPost_ret (results_cell_row rfl _ _ w.heap.size _ _ _ _ rfl (obj_set3 HM.out _ _ _) Tryd.underlying24 rfl (by kernel_rfl)) rfl ?_
      have hlow : w.heap.size < U.heap.size := by have := HL.out; have := HN.out; omega
      exact ⟨Y, cp, by rw [HLL.out, HMM.out], by rw [HLL.out]; exact spl_own_at (sowns_set3 HOW.out hlow _ _ _) HMM.out.symm, fun a ha => Nat.le_trans (Nat.le_of_lt hlow) (own_far HOW.out a ha), below_set3 HB.out (Nat.le_refl _) _ _ _⟩

set_option maxRecDepth 100000 in
set_option maxHeartbeats 6400000 in
theorem refsch_1 (w : World) :
    Calls Tryd.prog 26 #[.int .i64 1] w fun e w' => ∃ A cap, e = .returned (.agg #[.int .i64 2, .int .i64 1, .slice A (refL 1 diaT).length cap]) ∧ Spl w' A (refL 1 diaT) ∧ (∀ a, A = some a → w.heap.size ≤ a.block) ∧ Below w.heap.size w w' := by
  obtain ⟨i0, hi, hz0, hz1, hz2⟩ := info_parts Tryd.infoSpec
  go_enter Tryd.func26, Tryd.ntmps26
  go_wp2_with fail
  refine (both_tab _).mono ?_
  rintro e U ⟨n, rfl, hn, hd, hb⟩
  have HD := Lib.hid hd
  have HX := Lib.hid ((show Box ((w.alloc (.cells #[.int .i64 0, .int .i64 0, .slice none 0 0] 24)).alloc (.cells #[.int .i64 2, .int .i64 1, .slice none 0 0] 24)) (w.heap.size + 1) 2 1 none 0 0 from heap_al _ _ _ (by simp)).below hb)
  have HM : Hid (Room3 U w.heap.size) := obj_below (obj_below (heap_alloc_new w _) (below_al _ _)) hb
  have HB := Lib.hid (hbt (hbt (below_al _ _) (below_al _ _)) hb)
  have hn2 : w.heap.size + 2 ≤ n := by simpa using hn
  have HN := Lib.hid hn2
  have HL := Lib.hid hd.lt
  clear hd hb hn hn2
  go_wp2
  go_loopw [5] (fun i wr => ∃ k : Nat, k ≤ 29 ∧ i = .int .i64 (k : Int) ∧ Made w U (w.heap.size + 1) n 2 1 (refL 1 (diaT.take k)) wr) (fun i _ => 29 - (intOf i).toNat)
  case atStart => exact ⟨0, Nat.zero_le _, rfl, none, 0, HX.out, World.ownsRow_nil _ _ _ _, HD.out, HM.out, HB.out, Nat.le_refl _⟩
  case round =>
    obtain ⟨k, hk, rfl, Y, cp, hbox, hown, hd, hroom, hb, hsz⟩ := hrel
    have HX := Lib.hid hbox
    have HO := Lib.hid hown
    have HD := Lib.hid hd
    have HM := Lib.hid hroom
    have HB := Lib.hid hb
    have HZ := Lib.hid hsz
    clear hbox hown hd hroom hb hsz
    by_cases hlt : k < 29
    · have hst : refL 1 (diaT.take (k + 1)) = refL 1 (diaT.take k) ++ (if 0 < (diaR k).getD 5 0 then [((diaR k).getD 0 0, (diaR k).getD 5 0, (diaR k).getD 6 0, (diaR k).getD 7 0, (diaR k).getD 8 0)] else []) := by
        rw [take_dia hlt]; exact refL_snoc 1 _ _
      have hkn := dia_part 1 k (by omega)
      have HR := Lib.hid (fun (u : World) (h : DiaAt n u) => h.row hlt)
      have H0 := Lib.hid (fun (u : World) (h : DiaAt n u) => h.cell hlt 0 (by omega))
      have H1 := Lib.hid (fun (u : World) (h : DiaAt n u) => h.cell hlt 5 (by omega))
      have H2 := Lib.hid (fun (u : World) (h : DiaAt n u) => h.cell hlt 6 (by omega))
      have H3 := Lib.hid (fun (u : World) (h : DiaAt n u) => h.cell hlt 7 (by omega))
      have H4 := Lib.hid (fun (u : World) (h : DiaAt n u) => h.cell hlt 8 (by omega))
      generalize n + k = b at *
      generalize n + 29 = tb at *
      generalize (diaR k).getD 0 0 = z0 at *
      generalize (diaR k).getD 5 0 = z1 at *
      generalize (diaR k).getD 6 0 = z2 at *
      generalize (diaR k).getD 7 0 = z3 at *
      generalize (diaR k).getD 8 0 = z4 at *
      generalize refL 1 (diaT.take k) = ks at *
      have hr := HR.out _ HD.out
      have h1 := H1.out _ HD.out
      by_cases hz : 0 < z1
      · have tz : decide (0 < z1) = true := decide_eq_true hz
        have HST := Lib.hid (hst.trans (by rw [if_pos hz]))
        clear hst hz
        generalize hm : ks.length = m at *
        have HMM := Lib.hid hm
        clear hm
        go_wp2_with fail
        refine wp_region_noPanic ?_
        refine wp_region_late (fun u => Box u (w.heap.size + 1) 2 1 Y m cp ∧ DiaAt n u) 24 (by kernel_rfl) ((show Box wr _ _ _ _ _ _ ∧ DiaAt n wr from ⟨HX.out, HD.out⟩)) (fun hT => ?_)
        refine lv 0 (v := ?_) (fun u hu => ?_) hT ?_
        rotate_left
        · ((rcases hu with ⟨hu1, hu2⟩; obtain ⟨b0, b1, b2⟩ := obj_cells3 hu1; have r0 := HR.out _ hu2; have c0 := H0.out _ hu2; have c1 := H1.out _ hu2; have c2 := H2.out _ hu2; have c3 := H3.out _ hu2; have c4 := H4.out _ hu2; clear hu1 hu2); go_simp; try (with_reducible rfl))
        try simp only [puts]
        refine lv 1 (v := ?_) (fun u hu => ?_) hT ?_
        rotate_left
        · ((rcases hu with ⟨hu1, hu2⟩; obtain ⟨b0, b1, b2⟩ := obj_cells3 hu1; have r0 := HR.out _ hu2; have c0 := H0.out _ hu2; have c1 := H1.out _ hu2; have c2 := H2.out _ hu2; have c3 := H3.out _ hu2; have c4 := H4.out _ hu2; clear hu1 hu2); go_simp; try (with_reducible rfl))
        try simp only [puts]
        refine lv 2 (v := ?_) (fun u hu => ?_) hT ?_
        rotate_left
        · ((rcases hu with ⟨hu1, hu2⟩; obtain ⟨b0, b1, b2⟩ := obj_cells3 hu1; have r0 := HR.out _ hu2; have c0 := H0.out _ hu2; have c1 := H1.out _ hu2; have c2 := H2.out _ hu2; have c3 := H3.out _ hu2; have c4 := H4.out _ hu2; clear hu1 hu2); go_simp; try (with_reducible rfl))
        try simp only [puts]
        refine lv 3 (v := ?_) (fun u hu => ?_) hT ?_
        rotate_left
        · ((rcases hu with ⟨hu1, hu2⟩; obtain ⟨b0, b1, b2⟩ := obj_cells3 hu1; have r0 := HR.out _ hu2; have c0 := H0.out _ hu2; have c1 := H1.out _ hu2; have c2 := H2.out _ hu2; have c3 := H3.out _ hu2; have c4 := H4.out _ hu2; clear hu1 hu2); go_simp; try (with_reducible rfl))
        try simp only [puts]
        refine lv 4 (v := ?_) (fun u hu => ?_) hT ?_
        rotate_left
        · ((rcases hu with ⟨hu1, hu2⟩; obtain ⟨b0, b1, b2⟩ := obj_cells3 hu1; have r0 := HR.out _ hu2; have c0 := H0.out _ hu2; have c1 := H1.out _ hu2; have c2 := H2.out _ hu2; have c3 := H3.out _ hu2; have c4 := H4.out _ hu2; clear hu1 hu2); go_simp; try (with_reducible rfl))
        try simp only [puts]
        refine lv 5 (v := ?_) (fun u hu => ?_) hT ?_
        rotate_left
        · ((rcases hu with ⟨hu1, hu2⟩; obtain ⟨b0, b1, b2⟩ := obj_cells3 hu1; have r0 := HR.out _ hu2; have c0 := H0.out _ hu2; have c1 := H1.out _ hu2; have c2 := H2.out _ hu2; have c3 := H3.out _ hu2; have c4 := H4.out _ hu2; clear hu1 hu2); go_simp; try (with_reducible rfl))
        try simp only [puts]
        refine lv 6 (v := ?_) (fun u hu => ?_) hT ?_
        rotate_left
        · ((rcases hu with ⟨hu1, hu2⟩; obtain ⟨b0, b1, b2⟩ := obj_cells3 hu1; have r0 := HR.out _ hu2; have c0 := H0.out _ hu2; have c1 := H1.out _ hu2; have c2 := H2.out _ hu2; have c3 := H3.out _ hu2; have c4 := H4.out _ hu2; clear hu1 hu2); go_simp; try (with_reducible rfl))
        try simp only [puts]
        refine lv 7 (v := ?_) (fun u hu => ?_) hT ?_
        rotate_left
        · ((rcases hu with ⟨hu1, hu2⟩; obtain ⟨b0, b1, b2⟩ := obj_cells3 hu1; have r0 := HR.out _ hu2; have c0 := H0.out _ hu2; have c1 := H1.out _ hu2; have c2 := H2.out _ hu2; have c3 := H3.out _ hu2; have c4 := H4.out _ hu2; clear hu1 hu2); go_simp; try (with_reducible rfl))
        try simp only [puts]
        refine lv 8 (v := ?_) (fun u hu => ?_) hT ?_
        rotate_left
        · ((rcases hu with ⟨hu1, hu2⟩; obtain ⟨b0, b1, b2⟩ := obj_cells3 hu1; have r0 := HR.out _ hu2; have c0 := H0.out _ hu2; have c1 := H1.out _ hu2; have c2 := H2.out _ hu2; have c3 := H3.out _ hu2; have c4 := H4.out _ hu2; clear hu1 hu2); go_simp; try (with_reducible rfl))
        try simp only [puts]
        refine lv 9 (v := ?_) (fun u hu => ?_) hT ?_
        rotate_left
        · ((rcases hu with ⟨hu1, hu2⟩; obtain ⟨b0, b1, b2⟩ := obj_cells3 hu1; have r0 := HR.out _ hu2; have c0 := H0.out _ hu2; have c1 := H1.out _ hu2; have c2 := H2.out _ hu2; have c3 := H3.out _ hu2; have c4 := H4.out _ hu2; clear hu1 hu2); go_simp; try (with_reducible rfl))
        try simp only [puts]
        refine lv 10 (v := ?_) (fun u hu => ?_) hT ?_
        rotate_left
        · ((rcases hu with ⟨hu1, hu2⟩; obtain ⟨b0, b1, b2⟩ := obj_cells3 hu1; have r0 := HR.out _ hu2; have c0 := H0.out _ hu2; have c1 := H1.out _ hu2; have c2 := H2.out _ hu2; have c3 := H3.out _ hu2; have c4 := H4.out _ hu2; clear hu1 hu2); go_simp; try (with_reducible rfl))
        try simp only [puts]
        refine lv 11 (v := ?_) (fun u hu => ?_) hT ?_
        rotate_left
        · ((rcases hu with ⟨hu1, hu2⟩; obtain ⟨b0, b1, b2⟩ := obj_cells3 hu1; have r0 := HR.out _ hu2; have c0 := H0.out _ hu2; have c1 := H1.out _ hu2; have c2 := H2.out _ hu2; have c3 := H3.out _ hu2; have c4 := H4.out _ hu2; clear hu1 hu2); go_simp; try (with_reducible rfl))
        try simp only [puts]
        refine lv 12 (v := ?_) (fun u hu => ?_) hT ?_
        rotate_left
        · ((rcases hu with ⟨hu1, hu2⟩; obtain ⟨b0, b1, b2⟩ := obj_cells3 hu1; have r0 := HR.out _ hu2; have c0 := H0.out _ hu2; have c1 := H1.out _ hu2; have c2 := H2.out _ hu2; have c3 := H3.out _ hu2; have c4 := H4.out _ hu2; clear hu1 hu2); go_simp; try (with_reducible rfl))
        try simp only [puts]
        refine lv 13 (v := ?_) (fun u hu => ?_) hT ?_
        rotate_left
        · ((rcases hu with ⟨hu1, hu2⟩; obtain ⟨b0, b1, b2⟩ := obj_cells3 hu1; have r0 := HR.out _ hu2; have c0 := H0.out _ hu2; have c1 := H1.out _ hu2; have c2 := H2.out _ hu2; have c3 := H3.out _ hu2; have c4 := H4.out _ hu2; clear hu1 hu2); go_simp; try (with_reducible rfl))
        try simp only [puts]
        refine lv 14 (v := ?_) (fun u hu => ?_) hT ?_
        rotate_left
        · ((rcases hu with ⟨hu1, hu2⟩; obtain ⟨b0, b1, b2⟩ := obj_cells3 hu1; have r0 := HR.out _ hu2; have c0 := H0.out _ hu2; have c1 := H1.out _ hu2; have c2 := H2.out _ hu2; have c3 := H3.out _ hu2; have c4 := H4.out _ hu2; clear hu1 hu2); go_simp; try (with_reducible rfl))
        try simp only [puts]
        refine lv 15 (v := ?_) (fun u hu => ?_) hT ?_
        rotate_left
        · ((rcases hu with ⟨hu1, hu2⟩; obtain ⟨b0, b1, b2⟩ := obj_cells3 hu1; have r0 := HR.out _ hu2; have c0 := H0.out _ hu2; have c1 := H1.out _ hu2; have c2 := H2.out _ hu2; have c3 := H3.out _ hu2; have c4 := H4.out _ hu2; clear hu1 hu2); go_simp; try (with_reducible rfl))
        try simp only [puts]
        refine lv 16 (v := ?_) (fun u hu => ?_) hT ?_
        rotate_left
        · ((rcases hu with ⟨hu1, hu2⟩; obtain ⟨b0, b1, b2⟩ := obj_cells3 hu1; have r0 := HR.out _ hu2; have c0 := H0.out _ hu2; have c1 := H1.out _ hu2; have c2 := H2.out _ hu2; have c3 := H3.out _ hu2; have c4 := H4.out _ hu2; clear hu1 hu2); go_simp; try (with_reducible rfl))
        try simp only [puts]
        refine lv 17 (v := ?_) (fun u hu => ?_) hT ?_
        rotate_left
        · ((rcases hu with ⟨hu1, hu2⟩; obtain ⟨b0, b1, b2⟩ := obj_cells3 hu1; have r0 := HR.out _ hu2; have c0 := H0.out _ hu2; have c1 := H1.out _ hu2; have c2 := H2.out _ hu2; have c3 := H3.out _ hu2; have c4 := H4.out _ hu2; clear hu1 hu2); go_simp; try (with_reducible rfl))
        try simp only [puts]
        refine lv 18 (v := ?_) (fun u hu => ?_) hT ?_
        rotate_left
        · ((rcases hu with ⟨hu1, hu2⟩; obtain ⟨b0, b1, b2⟩ := obj_cells3 hu1; have r0 := HR.out _ hu2; have c0 := H0.out _ hu2; have c1 := H1.out _ hu2; have c2 := H2.out _ hu2; have c3 := H3.out _ hu2; have c4 := H4.out _ hu2; clear hu1 hu2); go_simp; try (with_reducible rfl))
        try simp only [puts]
        refine lv 19 (v := ?_) (fun u hu => ?_) hT ?_
        rotate_left
        · ((rcases hu with ⟨hu1, hu2⟩; obtain ⟨b0, b1, b2⟩ := obj_cells3 hu1; have r0 := HR.out _ hu2; have c0 := H0.out _ hu2; have c1 := H1.out _ hu2; have c2 := H2.out _ hu2; have c3 := H3.out _ hu2; have c4 := H4.out _ hu2; clear hu1 hu2); go_simp; try (with_reducible rfl))
        try simp only [puts]
        refine lv 20 (v := ?_) (fun u hu => ?_) hT ?_
        rotate_left
        · ((rcases hu with ⟨hu1, hu2⟩; obtain ⟨b0, b1, b2⟩ := obj_cells3 hu1; have r0 := HR.out _ hu2; have c0 := H0.out _ hu2; have c1 := H1.out _ hu2; have c2 := H2.out _ hu2; have c3 := H3.out _ hu2; have c4 := H4.out _ hu2; clear hu1 hu2); go_simp; try (with_reducible rfl))
        try simp only [puts]
        refine late_lone (i := 21) rfl (by kernel_rfl) (by rfl) (fun K hK => ?_)
        go_simp
        refine hK.out _ _ (⟨HX.out.below (below_al wr (.cells #[.int .i64 z0, .int .i64 z1, .int .i64 z2, .int .i64 z3, .int .i64 z4] 67)).drew, HD.out.below (below_al wr (.cells #[.int .i64 z0, .int .i64 z1, .int .i64 z2, .int .i64 z3, .int .i64 z4] 67)).drew⟩) ?_
        clear hK
        try simp only [puts]
        refine late_lone (i := 22) rfl (by kernel_rfl) (by rfl) (fun K hK => ?_)
        refine wp_append_lies _ _ _ _ (by rfl) U.heap.size 67 i0 _ 5 40 Tryd.underlying22 hi hz0 hz1 hz2 rfl (by omega) (.slice Y m cp) m (spsC ks) (by rfl) ((HO.out.alloc _).drew) ⟨wr.heap.size, 0, none⟩ 1 1 (spC (z0, z1, z2, z3, z4)) (by rfl) (by rfl) (World.news_of_block (cs := #[.int .i64 z0, .int .i64 z1, .int .i64 z2, .int .i64 z3, .int .i64 z4]) (t := 67) (fr := (0, 0)) (heap_alloc_new wr _)) (by simp [spC, Value.oneCell']) (by omega) (by unfold maxLen; omega) (by omega) (by have := HZ.out; simp; omega) (wr.heap.size + 1) (by simp) ?_
        intro g' cap' w6 hown6 hgrow6 hat6 hlt6
        have hbB : Below U.heap.size wr w6 := (((Below.refl _ _).alloc HZ.out _).drew).grown hgrow6 (by have := HZ.out; simp; omega) (fun q hq => (HO.out.lt q hq).1)
        have HO6 := Lib.hid hown6
        have HB6 := Lib.hid hbB
        have HX6 : Hid (Box w6 (w.heap.size + 1) 2 1 Y m cp) := (hbB.block _ (by have := HL.out; have := HN.out; omega)).trans HX.out
        have HD6 : Hid (DiaAt n w6) := HD.out.keep fun b' _ h2 => hbB.block b' (by have := HL.out; omega)
        have HM6 : Hid (Room3 w6 w.heap.size) := (hbB.block _ (by have := HL.out; have := HN.out; omega)).trans HM.out
        clear hown6 hgrow6 hat6 hlt6 hbB
        refine hK.out _ _ (⟨HX6.out, HD6.out⟩) ?_
        clear hK
        try simp only [puts]
        clear hT
        have hT : Box w6 (w.heap.size + 1) 2 1 Y m cp ∧ DiaAt n w6 := ⟨HX6.out, HD6.out⟩
        refine lv 23 (v := ?_) (fun u hu => ?_) hT ?_
        rotate_left
        · ((rcases hu with ⟨hu1, hu2⟩; obtain ⟨b0, b1, b2⟩ := obj_cells3 hu1; have r0 := HR.out _ hu2; have c0 := H0.out _ hu2; have c1 := H1.out _ hu2; have c2 := H2.out _ hu2; have c3 := H3.out _ hu2; have c4 := H4.out _ hu2; clear hu1 hu2); go_simp; try (with_reducible rfl))
        try simp only [puts]
        refine late_only rfl (by kernel_rfl) (by rfl) (fun K hK => ?_)
        obtain ⟨j0, j1, j2⟩ := obj_cells3 HX6.out
        obtain ⟨f0, f1, f2⟩ := obj_warm3 HX6.out
        go_simp
        refine hK.out _ _ ?_
        clear hK
        try simp only [puts]
        refine late_done (by kernel_rfl) (NoPanic.normal ?_) _
        clear hT j0 j1 j2 f0 f1 f2 hr h1
        go_wp2
        go_roundw
        case rel =>
          refine ⟨k + 1, by omega, by go_num, ?_⟩
          rw [HST.out]
          refine ⟨some ⟨g', 0, none⟩, cap', ?_, ?_, ?_, ?_, ?_, ?_⟩
          · rw [List.length_append, HMM.out]; exact heap_setCell_same _ _ 2 _ _ _ HX6.out
          · rw [spsC_snoc, List.length_append, HMM.out]; exact sowns_set1 HO6.out (by have := HL.out; have := HN.out; omega) _ _
          · exact HD6.out.keep fun b' h1 _ => heap_setCell_other _ _ _ _ (by have := HN.out; simp; omega)
          · exact (heap_setCell_other _ _ _ _ (by simp)).trans HM6.out
          · exact (HB.out.trans (HB6.out.mono (by have := HL.out; have := HN.out; omega))).setCell (p := ⟨w.heap.size + 1, 2, none⟩) (by simp) _
          · have := HB6.out.size; have := HZ.out; simp; omega
        case measure => simp [intOf]; omega
      · have tz : decide (0 < z1) = false := decide_eq_false hz
        have HST := Lib.hid (hst.trans (by rw [if_neg hz, List.append_nil]))
        clear hst hz hkn
        go_wp2
        go_roundw
        case rel => exact ⟨k + 1, by omega, by go_num, by rw [HST.out]; exact ⟨Y, cp, HX.out, HO.out, HD.out, HM.out, HB.out, HZ.out⟩⟩
        case measure => simp [intOf]; omega
    · have hke : k = 29 := by omega
      subst hke
      have he : diaT.take 29 = diaT := List.take_of_length_le (Nat.le_refl _)
      have hx1 := HX.out
      have ho1 := HO.out
      rw [he] at hx1 ho1
      have HXW := Lib.hid hx1
      have HOW := Lib.hid ho1
      generalize hl : refL 1 diaT = L at *
      have HLL := Lib.hid hl
      generalize hm : L.length = m at *
      have HMM := Lib.hid hm
      clear hx1 ho1 HX HO he hl hm
      obtain ⟨x0, x1, x2⟩ := obj_cells3 HXW.out
      obtain ⟨d0, d1, d2⟩ := obj_cells3 HM.out
      obtain ⟨f0, f1, f2⟩ := obj_warm3 HM.out
      go_wp2
      refine bodyPost_ret (results_cell_row rfl _ _ w.heap.size _ _ _ _ rfl (obj_set3 HM.out _ _ _) Tryd.underlying24 rfl (by kernel_rfl)) rfl ?_
      have hlow : w.heap.size < U.heap.size := by have := HL.out; have := HN.out; omega
      exact ⟨Y, cp, by rw [HLL.out, HMM.out], by rw [HLL.out]; exact spl_own_at (sowns_set3 HOW.out hlow _ _ _) HMM.out.symm, fun a ha => Nat.le_trans (Nat.le_of_lt hlow) (own_far HOW.out a ha), below_set3 HB.out (Nat.le_refl _) _ _ _⟩

end Go.Proofs.YtnbllngljgmebaaDoor
