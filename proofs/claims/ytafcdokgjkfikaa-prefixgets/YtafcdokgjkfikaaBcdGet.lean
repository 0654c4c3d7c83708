/-
  What bcd.Get answers: for every text and every count, in every world.
-/
import Derived.Test.YtafcdokgjkfikaaBcdSmall
import Derived.Deep.AppendLies
import Derived.Laws.OwnMore
namespace Go.Proofs.Ytafcdokgjkfikaa
open Go.RowKit

/-- What is got, as a value. -/
def bgetV (r : List UInt8 × Nat × Nat) : Value := .tuple #[.string ⟨r.1.toArray⟩, .int .i64 (r.2.1 : Int), .int .i64 (r.2.2 : Int)]

theorem bget_w_arg (b : ByteArray) (z : Int) (w : World) (h : z < 0 ∨ 999 < z) :
    Calls Try.prog 22 #[.string b, .int .i64 z] w fun e w' => e = .returned (bgetV ([], 1, 0)) ∧ Below w.heap.size w w' := by
  by_cases h0 : z < 0
  · have t1 : decide (z < 0) = true := by simpa using h0
    clear h
    go_enter Try.func22, Try.ntmps22
    go_wp2
    go_ret3
    exact ⟨rfl, Below.refl _ _⟩
  · have t1 : decide (z < 0) = false := by simpa using h0
    have t2 : decide (999 < z) = true := by simp; omega
    clear h
    go_enter Try.func22, Try.ntmps22
    go_wp2
    go_ret3
    exact ⟨rfl, Below.refl _ _⟩

theorem bget_w_cut (b : ByteArray) (n : Nat) (w : World) (h : n ≤ 999) (h1 : b.size < (n + 1) / 2) :
    Calls Try.prog 22 #[.string b, .int .i64 (n : Int)] w fun e w' => e = .returned (bgetV ([], 2, b.size)) ∧ Below w.heap.size w w' := by
  have HZ := Lib.hid (fun w => size_nat n w (by omega))
  have t1 : decide ((n : Int) < 0) = false := by simp
  have t2 : decide ((999 : Int) < (n : Int)) = false := by simp; omega
  generalize (n + 1) / 2 = m at *
  have t3 : decide ((b.size : Int) < (m : Int)) = true := by simp; omega
  go_enter Try.func22, Try.ntmps22
  go_wp2_with fail
  refine (HZ.out _).mono ?_
  rintro e w1 ⟨rfl, rfl⟩
  go_wp2_with fail
  go_ret3
  exact ⟨rfl, Below.refl _ _⟩

theorem bget_w_pad (b : ByteArray) (n : Nat) (w : World) (h : n ≤ 999) (h1 : (n + 1) / 2 ≤ b.size) (h2 : n % 2 = 1) (h3 : hb b.data.toList 0 ≠ 0) :
    Calls Try.prog 22 #[.string b, .int .i64 (n : Int)] w fun e w' => e = .returned (bgetV ([], 4, 0)) ∧ Below w.heap.size w w' := by
  have HZ := Lib.hid (fun w => size_nat n w (by omega))
  have HH := Lib.hid (fun w => half_any b 0 w (by omega) (by omega))
  have t1 : decide ((n : Int) < 0) = false := by simp
  have t2 : decide ((999 : Int) < (n : Int)) = false := by simp; omega
  have h2' : (n : Int) % 2 = 1 := by omega
  generalize hb b.data.toList 0 = q at *
  generalize (n + 1) / 2 = m at *
  have t3 : decide ((b.size : Int) < (m : Int)) = false := by simp; omega
  have t4 : (q : Int) ≠ 0 := by omega
  go_enter Try.func22, Try.ntmps22
  go_wp2_with fail
  refine (HZ.out _).mono ?_
  rintro e w1 ⟨rfl, rfl⟩
  go_wp2_with fail
  refine (HH.out _).mono ?_
  rintro e w1 ⟨rfl, rfl⟩
  go_wp2_with fail
  go_ret3
  exact ⟨rfl, Below.refl _ _⟩

/-- The round's relation; d: the halves that stand for no digit. -/
def GetRel (l : List UInt8) (n d : Nat) (w : World) (v i : Value) (wr : World) : Prop :=
  ∃ k cap : Nat, ∃ g, k ≤ n ∧ i = .int .i64 ((k + d : Nat) : Int) ∧ v = .slice (some ⟨g, 0, none⟩) k cap ∧ (∀ i, i < k → hb l (i + d) ≤ 9) ∧
    wr.ownsRow w.heap.size 5 1 (.slice (some ⟨g, 0, none⟩) k cap) k (((List.range k).map fun i => gdig l (i + d)).map xb) ∧ Below w.heap.size w wr
theorem xb_gdig (l : List UInt8) (i : Nat) : xb (gdig l i) = .int .u8 (48 + (hb l i : Int)) := by
  unfold xb; rw [gdig_toNat]; simp

set_option maxHeartbeats 1600000 in
theorem bget_w_even (b : ByteArray) (n : Nat) (w : World) (h : n ≤ 999) (h1 : (n + 1) / 2 ≤ b.size) (h2 : n % 2 = 0) :
    Calls Try.prog 22 #[.string b, .int .i64 (n : Int)] w fun e w' => e = .returned (bgetV (bget b.data.toList n)) ∧ Below w.heap.size w w' := by
  obtain ⟨i0, hi, hz0, hz1, hz2⟩ := info_parts Try.infoX8
  have hbl : b.data.toList.length = b.size := by simp
  have HZ := Lib.hid (fun w => size_nat n w (by omega))
  have t1 : decide ((n : Int) < 0) = false := by simp
  have t2 : decide ((999 : Int) < (n : Int)) = false := by simp; omega
  have h2' : (n : Int) % 2 = 0 := by omega
  have t3 := h1
  have H1 := Lib.hid h1
  clear h1
  generalize (n + 1) / 2 = m at HZ t3
  go_enter Try.func22, Try.ntmps22
  go_wp2_with fail
  refine (HZ.out _).mono ?_
  rintro e w1 ⟨rfl, rfl⟩
  go_wp2_with (at_make; refine wpList_make_own _ rfl _ _ 49 rfl w.heap.size 5 i0 (.int .u8 0) 1 Try.underlying49 hi hz0 hz1 _ _ _ n rfl rfl rfl ?b2 ?b3 ?b4 ?_)
  case b2 => rw [hz2]; omega
  case b3 => unfold maxLen; omega
  case b4 => exact Nat.le_refl _
  intro w1 hown hg
  have hb1 : Below w.heap.size w w1 := (Below.refl _ _).grown hg (Nat.le_refl _) (by simp)
  clear hg
  have HO := Lib.hid hown; clear hown
  go_wp2
  have HP := Lib.hid h2
  clear h2 h2'
  go_loopw [8, 9] (GetRel b.data.toList n 0 w) (fun _ i _ => n + 0 - (intOf i).toNat)
  case atStart => exact ⟨0, n, w.heap.size, Nat.zero_le _, rfl, rfl, fun i hi => absurd hi (by omega), HO.out, hb1⟩
  case round =>
    obtain ⟨k, cap, g, hk, rfl, rfl, hall, hown, hb'⟩ := hrel
    by_cases hlt : k < n
    · have hpb : (k + 0) / 2 < b.size := by have := H1.out; have := HP.out; omega
      have hpn : ((k + 0 : Nat) : Int) < (n : Int) + 0 := by omega
      have HH := Lib.hid (fun w => half_any b (k + 0) w hpb (by omega))
      have hq := hb_lt b.data.toList (k + 0)
      have HG := Lib.hid (xb_gdig b.data.toList (k + 0))
      have HF := Lib.hid (fun (h9 : 9 < hb b.data.toList (k + 0)) => bget_form (l := b.data.toList) h (by rw [hbl]; exact H1.out) (fun h => absurd h (by have := HP.out; omega)) hlt (by rw [HP.out]; exact h9) (by rw [HP.out]; exact hall))
      have HA := Lib.hid hall
      have HW := Lib.hid hown
      clear hall hown
      rw [HP.out] at HF
      generalize hqq : hb b.data.toList (k + 0) = q at HH hq HF HG
      generalize hpp : k + 0 = p at *
      by_cases h9 : 9 < q
      · have hres := HF.out h9
        have HRS := Lib.hid hres
        clear hres HF HA HW
        go_wp2_with fail
        refine (HH.out _).mono ?_
        rintro e w2 ⟨rfl, rfl⟩
        go_wp2_with fail
        go_ret3
        exact ⟨by rw [HRS.out]; rfl, hb'⟩
      · have hbz := hb'.size
        have hsum : IntKind.u8.wrap (48 + (q : Int)) = 48 + (q : Int) := IntWalk.u8_in _ (by omega)
        have HQ := Lib.hid hqq
        have HPP := Lib.hid hpp
        clear HF hqq hpp
        go_wp2_with fail
        refine (HH.out _).mono ?_
        rintro e w2 ⟨rfl, rfl⟩
        go_wp2_with (at_builtin; refine wpList_append_lies _ rfl _ _ _ rfl w.heap.size 5 i0 _ 1 1 Try.underlying49 hi hz0 hz1 hz2 rfl (by omega) (.slice (some ⟨g, 0, none⟩) k cap) k _ rfl (HW.out.alloc _) ⟨wr.heap.size, 0, none⟩ 1 1 [.int .u8 (48 + (q : Int))] rfl rfl (World.news_of_block (cs := #[.int .u8 (48 + (q : Int))]) (t := 5) (fr := (0, 0)) (heap_alloc_new wr _)) (by simp [Value.oneCell']) (by omega) (by unfold maxLen; omega) (by omega) (by simp; omega) (wr.heap.size + 1) (by simp) ?_; intro g' cap' w2 hown2 hgrow hat hlt2)
        have hb2 : Below w.heap.size w w2 := (hb'.alloc hbz _).grown hgrow (by simp; omega) (by intro q hq; have := own_base HW.out; simp [Value.ownBlock] at hq; omega)
        have HW2 := Lib.hid hown2; clear hown2 hgrow hat hlt2
        go_wp2
        go_roundw
        case rel =>
          have hpp := HPP.out
          refine ⟨k + 1, cap', g', by omega, by rw [show k + 1 + 0 = p + 1 from by omega]; go_num, rfl, fun i hi => ?_, ?_, hb2⟩
          · by_cases hik : i < k
            · exact HA.out i hik
            · rw [show i + 0 = p from by omega, HQ.out]; omega
          · have hg := HG.out
            rw [← hpp] at hg
            rw [List.range_succ, List.map_append, List.map_append, List.map_cons, List.map_nil, List.map_cons, List.map_nil, hg]
            exact HW2.out
        case measure => simp [intOf]; have := HPP.out; omega
    · have hkn : k = n := by omega
      subst hkn
      have HRS : Hid (bget b.data.toList k = (bgetL b.data.toList k, 0, 0)) := bget_ok h (by rw [hbl]; exact H1.out) (fun h => absurd h (by have := HP.out; omega)) (by rw [HP.out]; exact hall)
      have hcv : (convert 49 9 (.slice (some ⟨g, 0, none⟩) k cap)).run Try.prog wr = .ok (.string ⟨(bgetL b.data.toList k).toArray⟩) wr := by
        have hl : ((List.range k).map fun i => gdig b.data.toList (i + 0)) = bgetL b.data.toList k := by unfold bgetL; rw [HP.out]
        have hlen := bgetL_length b.data.toList k
        have h := run_convert_bytes_back (P := Try.prog) wr 49 9 5 ⟨g, 0, none⟩ cap (bgetL b.data.toList k) Try.underlying49 Try.underlying5 Try.underlying9 (by
          intro i hi
          rw [hl] at hown
          have hc := hown.cellAt i (by omega)
          rw [show (⟨g, 0, none⟩ : Addr).add i = ⟨g, i, none⟩ from by rw [Addr.add_lit, Nat.zero_add], hc]
          simp [xb, hi])
        rw [hlen] at h
        exact h
      clear hown hall HO hb1
      have hend : ¬ (((k + 0 : Nat) : Int) < (k : Int) + 0) := by omega
      generalize hpp : k + 0 = p at *
      go_wp2
      go_ret3
      exact ⟨by rw [HRS.out]; rfl, hb'⟩

set_option maxHeartbeats 1600000 in
theorem bget_w_odd (b : ByteArray) (n : Nat) (w : World) (h : n ≤ 999) (h1 : (n + 1) / 2 ≤ b.size) (h2 : n % 2 = 1) (h3 : hb b.data.toList 0 = 0) :
    Calls Try.prog 22 #[.string b, .int .i64 (n : Int)] w fun e w' => e = .returned (bgetV (bget b.data.toList n)) ∧ Below w.heap.size w w' := by
  obtain ⟨i0, hi, hz0, hz1, hz2⟩ := info_parts Try.infoX8
  have hbl : b.data.toList.length = b.size := by simp
  have HZ := Lib.hid (fun w => size_nat n w (by omega))
  have t1 : decide ((n : Int) < 0) = false := by simp
  have t2 : decide ((999 : Int) < (n : Int)) = false := by simp; omega
  have h2' : (n : Int) % 2 = 1 := by omega
  have t3 := h1
  have HH0 := Lib.hid (fun w => half_any b 0 w (by omega) (by omega))
  rw [h3] at HH0
  have H3 := Lib.hid h3
  clear h3
  have H1 := Lib.hid h1
  clear h1
  generalize (n + 1) / 2 = m at HZ t3
  go_enter Try.func22, Try.ntmps22
  go_wp2_with fail
  refine (HZ.out _).mono ?_
  rintro e w1 ⟨rfl, rfl⟩
  go_wp2_with fail
  refine (HH0.out _).mono ?_
  rintro e w1 ⟨rfl, rfl⟩
  go_wp2_with (at_make; refine wpList_make_own _ rfl _ _ 49 rfl w.heap.size 5 i0 (.int .u8 0) 1 Try.underlying49 hi hz0 hz1 _ _ _ n rfl rfl rfl ?b2 ?b3 ?b4 ?_)
  case b2 => rw [hz2]; omega
  case b3 => unfold maxLen; omega
  case b4 => exact Nat.le_refl _
  intro w1 hown hg
  have hb1 : Below w.heap.size w w1 := (Below.refl _ _).grown hg (Nat.le_refl _) (by simp)
  clear hg
  have HO := Lib.hid hown; clear hown
  go_wp2
  have HP := Lib.hid h2
  clear h2 h2'
  go_loopw [8, 9] (GetRel b.data.toList n 1 w) (fun _ i _ => n + 1 - (intOf i).toNat)
  case atStart => exact ⟨0, n, w.heap.size, Nat.zero_le _, rfl, rfl, fun i hi => absurd hi (by omega), HO.out, hb1⟩
  case round =>
    obtain ⟨k, cap, g, hk, rfl, rfl, hall, hown, hb'⟩ := hrel
    by_cases hlt : k < n
    · have hpb : (k + 1) / 2 < b.size := by have := H1.out; have := HP.out; omega
      have hpn : ((k + 1 : Nat) : Int) < (n : Int) + 1 := by omega
      have HH := Lib.hid (fun w => half_any b (k + 1) w hpb (by omega))
      have hq := hb_lt b.data.toList (k + 1)
      have HG := Lib.hid (xb_gdig b.data.toList (k + 1))
      have HF := Lib.hid (fun (h9 : 9 < hb b.data.toList (k + 1)) => bget_form (l := b.data.toList) h (by rw [hbl]; exact H1.out) (fun _ => H3.out) hlt (by rw [HP.out]; exact h9) (by rw [HP.out]; exact hall))
      have HA := Lib.hid hall
      have HW := Lib.hid hown
      clear hall hown
      rw [HP.out] at HF
      generalize hqq : hb b.data.toList (k + 1) = q at HH hq HF HG
      generalize hpp : k + 1 = p at *
      by_cases h9 : 9 < q
      · have hres := HF.out h9
        have HRS := Lib.hid hres
        clear hres HF HA HW
        go_wp2_with fail
        refine (HH.out _).mono ?_
        rintro e w2 ⟨rfl, rfl⟩
        go_wp2_with fail
        go_ret3
        exact ⟨by rw [HRS.out]; rfl, hb'⟩
      · have hbz := hb'.size
        have hsum : IntKind.u8.wrap (48 + (q : Int)) = 48 + (q : Int) := IntWalk.u8_in _ (by omega)
        have HQ := Lib.hid hqq
        have HPP := Lib.hid hpp
        clear HF hqq hpp
        go_wp2_with fail
        refine (HH.out _).mono ?_
        rintro e w2 ⟨rfl, rfl⟩
        go_wp2_with (at_builtin; refine wpList_append_lies _ rfl _ _ _ rfl w.heap.size 5 i0 _ 1 1 Try.underlying49 hi hz0 hz1 hz2 rfl (by omega) (.slice (some ⟨g, 0, none⟩) k cap) k _ rfl (HW.out.alloc _) ⟨wr.heap.size, 0, none⟩ 1 1 [.int .u8 (48 + (q : Int))] rfl rfl (World.news_of_block (cs := #[.int .u8 (48 + (q : Int))]) (t := 5) (fr := (0, 0)) (heap_alloc_new wr _)) (by simp [Value.oneCell']) (by omega) (by unfold maxLen; omega) (by omega) (by simp; omega) (wr.heap.size + 1) (by simp) ?_; intro g' cap' w2 hown2 hgrow hat hlt2)
        have hb2 : Below w.heap.size w w2 := (hb'.alloc hbz _).grown hgrow (by simp; omega) (by intro q hq; have := own_base HW.out; simp [Value.ownBlock] at hq; omega)
        have HW2 := Lib.hid hown2; clear hown2 hgrow hat hlt2
        go_wp2
        go_roundw
        case rel =>
          have hpp := HPP.out
          refine ⟨k + 1, cap', g', by omega, by rw [show k + 1 + 1 = p + 1 from by omega]; go_num, rfl, fun i hi => ?_, ?_, hb2⟩
          · by_cases hik : i < k
            · exact HA.out i hik
            · rw [show i + 1 = p from by omega, HQ.out]; omega
          · have hg := HG.out
            rw [← hpp] at hg
            rw [List.range_succ, List.map_append, List.map_append, List.map_cons, List.map_nil, List.map_cons, List.map_nil, hg]
            exact HW2.out
        case measure => simp [intOf]; have := HPP.out; omega
    · have hkn : k = n := by omega
      subst hkn
      have HRS : Hid (bget b.data.toList k = (bgetL b.data.toList k, 0, 0)) := bget_ok h (by rw [hbl]; exact H1.out) (fun _ => H3.out) (by rw [HP.out]; exact hall)
      have hcv : (convert 49 9 (.slice (some ⟨g, 0, none⟩) k cap)).run Try.prog wr = .ok (.string ⟨(bgetL b.data.toList k).toArray⟩) wr := by
        have hl : ((List.range k).map fun i => gdig b.data.toList (i + 1)) = bgetL b.data.toList k := by unfold bgetL; rw [HP.out]
        have hlen := bgetL_length b.data.toList k
        have h := run_convert_bytes_back (P := Try.prog) wr 49 9 5 ⟨g, 0, none⟩ cap (bgetL b.data.toList k) Try.underlying49 Try.underlying5 Try.underlying9 (by
          intro i hi
          rw [hl] at hown
          have hc := hown.cellAt i (by omega)
          rw [show (⟨g, 0, none⟩ : Addr).add i = ⟨g, i, none⟩ from by rw [Addr.add_lit, Nat.zero_add], hc]
          simp [xb, hi])
        rw [hlen] at h
        exact h
      clear hown hall HO hb1
      have hend : ¬ (((k + 1 : Nat) : Int) < (k : Int) + 1) := by omega
      generalize hpp : k + 1 = p at *
      go_wp2
      go_ret3
      exact ⟨by rw [HRS.out]; rfl, hb'⟩

theorem bget_any (b : ByteArray) (z : Int) (w : World) :
    Calls Try.prog 22 #[.string b, .int .i64 z] w fun e w' => e = .returned (bgetV (bget b.data.toList z)) ∧ Below w.heap.size w w' := by
  have hbl : b.data.toList.length = b.size := by simp
  rcases bget_cases b.data.toList z with g | ⟨n, rfl, hn, g | ⟨hl, ⟨g1, g2⟩ | ⟨g1, _⟩⟩⟩
  · rw [bget_arg g]; exact bget_w_arg b z w g
  · rw [bget_cut hn g, hbl]; exact bget_w_cut b n w hn (by omega)
  · rw [bget_pad hn hl g1 g2]; exact bget_w_pad b n w hn (by omega) g1 g2
  · rcases Nat.mod_two_eq_zero_or_one n with h | h
    · exact bget_w_even b n w hn (by omega) h
    · exact bget_w_odd b n w hn (by omega) h (g1 h)

end Go.Proofs.Ytafcdokgjkfikaa
