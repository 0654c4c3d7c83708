/-
  What bcd.Put answers: for every text, in every world.
-/
import Derived.Test.YtafcdokgjkfikaaBcdSmall
import Derived.Test.YtafcdokgjkfikaaDigAlls
import Derived.Test.YtafcdokgjkfikaaRegLate
import Derived.Laws.OwnMore
namespace Go.Proofs.Ytafcdokgjkfikaa
open Go.RowKit

/-- May a text be packed? What it is then. -/
def bputB (l : List UInt8) : Bool := decide (l.length ≤ 999) && allD l
def bputS (l : List UInt8) : ByteArray := if bputB l = true then ⟨(packL l).toArray⟩ else ⟨#[]⟩
theorem bputS_yes {l : List UInt8} (h : bputB l = true) : bputS l = ⟨(packL l).toArray⟩ := by simp [bputS, h]
theorem bputS_no {l : List UInt8} (h : bputB l = false) : bputS l = ⟨#[]⟩ := by simp [bputS, h]
theorem bputB_yes {l : List UInt8} (h1 : l.length ≤ 999) (h2 : allD l = true) : bputB l = true := by simp [bputB, h1, h2]
theorem bputB_long {l : List UInt8} (h1 : 999 < l.length) : bputB l = false := by simp [bputB, show ¬ l.length ≤ 999 by omega]
theorem bputB_form {l : List UInt8} (h1 : allD l = false) : bputB l = false := by simp [bputB, h1]

theorem bput_no (s : ByteArray) (w : World) (hs : s.size ≤ maxLen) (h : bputB s.data.toList = false) :
    Calls Try.prog 17 #[.string s] w fun e w' => e = .returned (.tuple #[.string ⟨#[]⟩, .bool false]) ∧ Below w.heap.size w w' := by
  unfold maxLen at hs
  by_cases h1 : 999 < s.size
  · have t1 : decide ((999 : Int) < (s.size : Int)) = true := by simp; omega
    clear h
    go_enter Try.func17, Try.ntmps17
    go_wp2
    go_ret2
    exact ⟨rfl, Below.refl _ _⟩
  · have t1 : decide ((999 : Int) < (s.size : Int)) = false := by simp; omega
    have hd : allD s.data.toList = false := by
      cases hd : allD s.data.toList
      · rfl
      · rw [bputB_yes (by simp; omega) hd] at h; cases h
    have HA := Lib.hid (fun w => all_any s w)
    rw [hd] at HA
    clear h hd
    go_enter Try.func17, Try.ntmps17
    go_wp2_with fail
    refine (HA.out _).mono ?_
    rintro e w1 ⟨rfl, hb1⟩
    go_wp2_with fail
    go_ret2
    exact ⟨rfl, hb1⟩

theorem shl4 (x y : Nat) (hx : x < 10) (hy : y < 10) : bits .or .u8 (IntKind.u8.wrap ((x : Int) * 16)) (y : Int) = ((16 * x + y : Nat) : Int) := by
  have : ∀ x : Fin 10, ∀ y : Fin 10, bits .or .u8 (IntKind.u8.wrap ((x.val : Int) * 16)) (y.val : Int) = ((16 * x.val + y.val : Nat) : Int) := by decide +kernel
  exact this ⟨x, hx⟩ ⟨y, hy⟩

set_option maxHeartbeats 1600000 in
theorem bput_yes (s : ByteArray) (w : World) (h : bputB s.data.toList = true) :
    Calls Try.prog 17 #[.string s] w fun e w' => e = .returned (.tuple #[.string ⟨(packL s.data.toList).toArray⟩, .bool true]) ∧ Below w.heap.size w w' := by
  obtain ⟨i0, hi, hz0, hz1, hz2⟩ := info_parts Try.infoX8
  have hsz : s.data.toList.length = s.size := by simp
  have hle : s.size ≤ 999 := by unfold bputB at h; simp at h; exact h.1
  have hd : allD s.data.toList = true := by unfold bputB at h; simp at h; exact h.2
  have t1 : decide ((999 : Int) < (s.size : Int)) = false := by simp; omega
  have HA := Lib.hid (fun w => all_any s w)
  rw [hd] at HA
  have HZ := Lib.hid (fun w => size_nat s.size w (by omega))
  have HD := Lib.hid hd
  clear h hd
  go_enter Try.func17, Try.ntmps17
  go_wp2_with fail
  refine (HA.out _).mono ?_
  rintro e w1 ⟨rfl, hb1⟩
  go_wp2_with fail
  refine (HZ.out _).mono ?_
  rintro e w2 ⟨rfl, rfl⟩
  go_wp2_with (at_make; refine wpList_make_full _ rfl _ _ 49 rfl w.heap.size 5 i0 (.int .u8 0) 1 Try.underlying49 hi hz0 hz1 _ _ _ _ ((s.size + 1) / 2) rfl rfl rfl rfl ?b2 ?b3 ?b4 ?_)
  case b2 => rw [hz2]; omega
  case b3 => unfold maxLen; omega
  case b4 => exact hb1.size
  intro w3 hown hg
  have hb3 : Below w.heap.size w w3 := hbt hb1 ((Below.refl _ _).grown hg (Nat.le_refl _) (by simp))
  rw [toList_madeCells_one] at hown
  clear hg hb1
  have HO := Lib.hid hown; clear hown
  have hst : List.replicate ((s.size + 1) / 2) (Value.int .u8 0) = (pcL s.data.toList ((s.size + 1) / 2) (0 + s.size % 2)).map xb := by
    rw [Nat.zero_add, ← hsz, pcL_start, List.map_replicate]; rfl
  rw [hst] at HO
  clear hst
  generalize w1.heap.size = g at HO
  go_wp2
  go_loopw [25] (fun i wr => ∃ k : Nat, k ≤ s.size ∧ i = .int .i64 (k : Int) ∧ wr.ownsRow w.heap.size 5 1 (.slice (some ⟨g, 0, none⟩) ((s.size + 1) / 2) ((s.size + 1) / 2)) ((s.size + 1) / 2) ((pcL s.data.toList ((s.size + 1) / 2) (k + s.size % 2)).map xb) ∧ Below w.heap.size w wr) (fun i _ => s.size - (intOf i).toNat)
  case atStart => exact ⟨0, Nat.zero_le _, rfl, HO.out, hb3⟩
  case round =>
    obtain ⟨k, hk, rfl, hown, hb⟩ := hrel
    by_cases hlt : k < s.size
    · have hj : (k : Int) + (s.size : Int) % 2 = ((k + s.size % 2 : Nat) : Int) := by omega
      have hvk : hvL s.data.toList (k + s.size % 2) = dv s[k] := by
        rw [show s.size % 2 = s.data.toList.length % 2 from by rw [hsz]]
        exact hvL_at s.data.toList k (by omega)
      have hq1 : pcN s.data.toList (k + s.size % 2) ((k + s.size % 2) / 2) < 10 := by
        rw [pcN_old]
        split
        · omega
        · exact hvL_lt HD.out _
      have hnew := pcN_new s.data.toList (k + s.size % 2)
      have hset := pcL_set s.data.toList ((s.size + 1) / 2) (k + s.size % 2) _ hnew
      have hcell := hown.cellAt ((k + s.size % 2) / 2) (by omega)
      rw [List.getElem?_map, show (pcL s.data.toList ((s.size + 1) / 2) (k + s.size % 2))[(k + s.size % 2) / 2]? = some (UInt8.ofNat (pcN s.data.toList (k + s.size % 2) ((k + s.size % 2) / 2))) from by
        unfold pcL; rw [List.getElem?_map, List.getElem?_range (by omega)]; rfl] at hcell
      have hfro := hown.frozenAt ((k + s.size % 2) / 2)
      have hstd := hown.stored ((k + s.size % 2) / 2) (xb (UInt8.ofNat (16 * pcN s.data.toList (k + s.size % 2) ((k + s.size % 2) / 2) + hvL s.data.toList (k + s.size % 2))))
      have hdg : isD s[k] = true := by
        have := allD_getD HD.out k
        rwa [getD_in _ _ _ (by omega)] at this
      have hdv := dv_lt hdg
      rw [isD_iff] at hdg
      have hix := ix_str s k hlt
      rw [hvk] at hnew hset hstd
      have hdv2 : dv s[k] = s[k].toNat - 48 := rfl
      rw [← List.map_set, hset] at hstd
      generalize s[k] = c at *
      have hp : (k + s.size % 2) / 2 < (s.size + 1) / 2 := by omega
      generalize hjj : k + s.size % 2 = j at *
      generalize hpp : j / 2 = p at *
      generalize hq : pcN s.data.toList j p = q at *
      rw [show (Option.map xb (some (UInt8.ofNat q))) = some (.int .u8 (q : Int)) from by simp [xb]; omega] at hcell
      have hix0 : ((k : Int) + (s.size : Int) % 2) / 2 = (p : Int) := by omega
      generalize hm : (s.size + 1) / 2 = m at *
      have hpm : (p : Int) < (m : Int) := by omega
      have HW := Lib.hid hown
      have HS := Lib.hid hstd
      have hsub : IntKind.u8.wrap ((c.toNat : Int) - 48) = ((dv c : Nat) : Int) := by rw [IntWalk.u8_in _ (by omega)]; omega
      have HJ := Lib.hid hjj
      clear hown hstd hnew hset hvk hj hdv2 hdg hpp hjj hm hq HA HZ HO
      go_wp2
      refine wp_region_noPanic ?_
      refine wp_region_late (fun u => u.cell? ⟨g, p, none⟩ = some (.int .u8 (q : Int))) 13 (by kernel_rfl) (by simpa using hcell) (fun hT => ?_)
      refine late_val (i := 0) (v := ?_) rfl (by kernel_rfl) (by kernel_rfl) (by kernel_rfl) (by kernel_rfl) (fun _ _ _ h => h) (by rfl) (fun u hu => ?_) hT ?_
      rotate_left
      · ((try dsimp only at hu); go_simp; try (with_reducible rfl))
      try simp only [Act.put, List.setIfInBounds_toArray, List.set_cons_zero, List.set_cons_succ]
      refine late_val (i := 1) (v := ?_) rfl (by kernel_rfl) (by kernel_rfl) (by kernel_rfl) (by kernel_rfl) (fun _ _ _ h => h) (by rfl) (fun u hu => ?_) hT ?_
      rotate_left
      · ((try dsimp only at hu); go_simp; try (with_reducible rfl))
      try simp only [Act.put, List.setIfInBounds_toArray, List.set_cons_zero, List.set_cons_succ]
      refine late_val (i := 2) (v := ?_) rfl (by kernel_rfl) (by kernel_rfl) (by kernel_rfl) (by kernel_rfl) (fun _ _ _ h => h) (by rfl) (fun u hu => ?_) hT ?_
      rotate_left
      · ((try dsimp only at hu); go_simp; try (with_reducible rfl))
      try simp only [Act.put, List.setIfInBounds_toArray, List.set_cons_zero, List.set_cons_succ]
      refine late_val (i := 3) (v := ?_) rfl (by kernel_rfl) (by kernel_rfl) (by kernel_rfl) (by kernel_rfl) (fun _ _ _ h => h) (by rfl) (fun u hu => ?_) hT ?_
      rotate_left
      · ((try dsimp only at hu); go_simp; try (with_reducible rfl))
      try simp only [Act.put, List.setIfInBounds_toArray, List.set_cons_zero, List.set_cons_succ]
      refine late_val (i := 4) (v := ?_) rfl (by kernel_rfl) (by kernel_rfl) (by kernel_rfl) (by kernel_rfl) (fun _ _ _ h => h) (by rfl) (fun u hu => ?_) hT ?_
      rotate_left
      · ((try dsimp only at hu); go_simp; try (with_reducible rfl))
      try simp only [Act.put, List.setIfInBounds_toArray, List.set_cons_zero, List.set_cons_succ]
      refine late_val (i := 5) (v := ?_) rfl (by kernel_rfl) (by kernel_rfl) (by kernel_rfl) (by kernel_rfl) (fun _ _ _ h => h) (by rfl) (fun u hu => ?_) hT ?_
      rotate_left
      · ((try dsimp only at hu); go_simp; try (with_reducible rfl))
      try simp only [Act.put, List.setIfInBounds_toArray, List.set_cons_zero, List.set_cons_succ]
      refine late_val (i := 6) (v := ?_) rfl (by kernel_rfl) (by kernel_rfl) (by kernel_rfl) (by kernel_rfl) (fun _ _ _ h => h) (by rfl) (fun u hu => ?_) hT ?_
      rotate_left
      · ((try dsimp only at hu); go_simp; try (with_reducible rfl))
      try simp only [Act.put, List.setIfInBounds_toArray, List.set_cons_zero, List.set_cons_succ]
      refine late_val (i := 7) (v := ?_) rfl (by kernel_rfl) (by kernel_rfl) (by kernel_rfl) (by kernel_rfl) (fun _ _ _ h => h) (by rfl) (fun u hu => ?_) hT ?_
      rotate_left
      · ((try dsimp only at hu); go_simp; try (with_reducible rfl))
      try simp only [Act.put, List.setIfInBounds_toArray, List.set_cons_zero, List.set_cons_succ]
      refine late_val (i := 8) (v := ?_) rfl (by kernel_rfl) (by kernel_rfl) (by kernel_rfl) (by kernel_rfl) (fun _ _ _ h => h) (by rfl) (fun u hu => ?_) hT ?_
      rotate_left
      · ((try dsimp only at hu); go_simp; try (with_reducible rfl))
      try simp only [Act.put, List.setIfInBounds_toArray, List.set_cons_zero, List.set_cons_succ]
      refine late_val (i := 9) (v := ?_) rfl (by kernel_rfl) (by kernel_rfl) (by kernel_rfl) (by kernel_rfl) (fun _ _ _ h => h) (by rfl) (fun u hu => ?_) hT ?_
      rotate_left
      · ((try dsimp only at hu); go_simp; try (with_reducible rfl))
      try simp only [Act.put, List.setIfInBounds_toArray, List.set_cons_zero, List.set_cons_succ]
      refine late_val (i := 10) (v := ?_) rfl (by kernel_rfl) (by kernel_rfl) (by kernel_rfl) (by kernel_rfl) (fun _ _ _ h => h) (by rfl) (fun u hu => ?_) hT ?_
      rotate_left
      · ((try dsimp only at hu); go_simp; try (with_reducible rfl))
      try simp only [Act.put, List.setIfInBounds_toArray, List.set_cons_zero, List.set_cons_succ]
      refine late_val (i := 11) (v := ?_) rfl (by kernel_rfl) (by kernel_rfl) (by kernel_rfl) (by kernel_rfl) (fun _ _ _ h => h) (by rfl) (fun u hu => ?_) hT ?_
      rotate_left
      · ((try dsimp only at hu); go_simp; try (with_reducible rfl))
      try simp only [Act.put, List.setIfInBounds_toArray, List.set_cons_zero, List.set_cons_succ]
      refine late_val (i := 12) (v := ?_) rfl (by kernel_rfl) (by kernel_rfl) (by kernel_rfl) (by kernel_rfl) (fun _ _ _ h => h) (by rfl) (fun u hu => ?_) hT ?_
      rotate_left
      · ((try dsimp only at hu); go_simp; try (with_reducible rfl))
      try simp only [Act.put, List.setIfInBounds_toArray, List.set_cons_zero, List.set_cons_succ]
      refine late_only rfl (by kernel_rfl) (by rfl) (fun K hK => ?_)
      go_simp
      refine hK.out _ _ ?_
      clear hK
      try simp only [Act.put, List.setIfInBounds_toArray, List.set_cons_zero, List.set_cons_succ]
      refine late_done (by kernel_rfl) (NoPanic.normal ?_) _
      rw [shl4 q (dv c) hq1 hdv]
      have hu : xb (UInt8.ofNat (16 * q + dv c)) = .int .u8 ((16 * q + dv c : Nat) : Int) := by
        unfold xb; rw [UInt8.toNat_ofNat', Nat.mod_eq_of_lt (by omega)]
      rw [hu] at HS
      have HR := Lib.hid HS.out.1.drew
      have HB : Hid (Below w.heap.size w (wr.setCell ⟨g, p, none⟩ (.int .u8 ((16 * q + dv c : Nat) : Int))).drew) := (hb.grown HS.out.2 hb.size (by intro x hx; have := own_base HW.out; simp at hx; omega)).drew
      clear HS HW hu hix hb
      generalize 16 * q + dv c = n at HR HB ⊢
      go_wp2
      go_roundw
      case rel => exact ⟨k + 1, by omega, by go_num, by rw [show k + 1 + s.size % 2 = j + 1 from by have := HJ.out; omega]; exact HR.out, HB.out⟩
      case measure => simp [intOf]; omega
    · have hkn : k = s.size := by omega
      have hcv : (convert 49 9 (.slice (some ⟨g, 0, none⟩) ((s.size + 1) / 2) ((s.size + 1) / 2))).run Try.prog wr = .ok (.string ⟨(packL s.data.toList).toArray⟩) wr := by
        have hl : pcL s.data.toList ((s.size + 1) / 2) (k + s.size % 2) = packL s.data.toList := by
          have := pcL_end s.data.toList
          rw [hsz] at this
          rw [hkn, this]
        have hlen : (packL s.data.toList).length = (s.size + 1) / 2 := by rw [packL_length, hsz]
        have h := run_convert_bytes_back (P := Try.prog) wr 49 9 5 ⟨g, 0, none⟩ ((s.size + 1) / 2) (packL s.data.toList) Try.underlying49 Try.underlying5 Try.underlying9 (by
          intro i hi
          rw [hl] at hown
          have hc := hown.cellAt i (by omega)
          rw [show (⟨g, 0, none⟩ : Addr).add i = ⟨g, i, none⟩ from by rw [Addr.add_lit, Nat.zero_add], hc]
          simp [xb, hi])
        rw [hlen] at h
        exact h
      clear hown hkn HO hb3
      go_wp2
      go_ret2
      exact ⟨rfl, hb⟩

theorem bput_any (s : ByteArray) (w : World) (hs : s.size ≤ maxLen) :
    Calls Try.prog 17 #[.string s] w fun e w' => e = .returned (.tuple #[.string (bputS s.data.toList), .bool (bputB s.data.toList)]) ∧ Below w.heap.size w w' := by
  cases h : bputB s.data.toList
  · rw [bputS_no h]; exact bput_no s w hs h
  · rw [bputS_yes h]; exact bput_yes s w h

end Go.Proofs.Ytafcdokgjkfikaa
