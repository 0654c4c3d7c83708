/-
  What hexa.Get answers: for every text, in every world.
-/
import Derived.Test.YtdnckiaeeikbhaaHexPut
namespace Go.Proofs.Ytdnckiaeeikbhaa
open Go.RowKit

set_option maxHeartbeats 800000 in
theorem hget_no (s : ByteArray) (w : World) (hs : s.size ≤ 1000000000) (h : s.data.toList.all isX = false ∨ s.size % 2 = 1) :
    Calls Try.prog 36 #[.string s] w fun e w' => e = .returned (.tuple #[.string ⟨#[]⟩, .int .i64 (hbad s.data.toList : Int), .bool false]) ∧ Below w.heap.size w w' := by
  have hwr := fun w => wrong_any s w (by unfold maxLen; omega)
  have hl : s.data.toList.length = s.size := by simp
  cases ha : s.data.toList.all isX
  · have hb := hbad_some ha
    rw [hl] at hb
    generalize hbad s.data.toList = n at hwr hb
    have HW := Lib.hid hwr; clear hwr h ha hl
    go_enter Try.func36, Try.ntmps36
    go_wp2_with (go_at_call 38; refine (HW.out _).mono ?_; rintro e w' ⟨rfl, rfl⟩)
    go_ret3
    exact ⟨rfl, Below.refl _ _⟩
  · have hodd : s.size % 2 = 1 := by
      rcases h with h | h
      · rw [ha] at h; cases h
      · exact h
    have hb := hbad_all ha
    rw [hl] at hb
    rw [hb] at hwr ⊢
    have HW := Lib.hid hwr
    have t : ((s.size : Int) % 2 == 1) = true := by simp; omega
    clear hwr h ha hl hb hodd
    go_enter Try.func36, Try.ntmps36
    go_wp2_with (go_at_call 38; refine (HW.out _).mono ?_; rintro e w' ⟨rfl, rfl⟩)
    go_ret3
    exact ⟨rfl, Below.refl _ _⟩

theorem ix_str1 (s : ByteArray) (k : Nat) (h : k + 1 < s.size) (w : World) : (Instr.index 9 (.string s) (.int .i64 ((k : Int) + 1))).run Try.prog w = .ok (.int .u8 ((s[k + 1].toNat : Nat) : Int)) w := ix_str s (k + 1) h w
theorem wraps_i64 (n : Int) (h0 : 0 ≤ n) (h1 : n < 2 ^ 62) : IntKind.i64.wrap n = n := by rw [IntKind.wrap_i64]; omega
theorem or_join (p q : Nat) (hp : p ≤ 15) (hq : q ≤ 15) : bits .or .i64 ((p : Int) * 16) (q : Int) = ((16 * p + q : Nat) : Int) := by
  rw [bits_join .i64 62 (by decide) wraps_i64 4 (x := (p : Int) * 16) (y := (q : Int)) (by omega) (by omega) (by omega) (by omega) (by omega) (by omega)]
  omega
theorem isX_at {s : ByteArray} (ha : s.data.toList.all isX = true) (k : Nat) (h : k < s.size) : isX s[k] = true := by
  rw [List.all_eq_true] at ha
  exact ha _ (by show s.data[k] ∈ s.data.toList; simp)
theorem hget_step (s : ByteArray) (k j : Nat) (h : k + 1 < s.size) (hj : 2 * j = k) : hgetL (s.data.toList.take (k + 2)) = hgetL (s.data.toList.take k) ++ [UInt8.ofNat (16 * xv s[k] + xv s[k + 1])] := by
  rw [show k + 2 = (k + 1) + 1 from rfl, take_snoc' s (k + 1) h, take_snoc' s k (by omega), List.append_assoc]
  exact hgetL_snoc2 _ _ _ (by rw [List.length_take, Nat.min_eq_left (by simp; omega)]; omega)

set_option maxRecDepth 100000 in
set_option maxHeartbeats 1600000 in
theorem hget_yes (s : ByteArray) (w : World) (hs : s.size ≤ 1000000000) (ha : s.data.toList.all isX = true) (he : s.size % 2 = 0) :
    Calls Try.prog 36 #[.string s] w fun e w' => e = .returned (.tuple #[.string ⟨(hgetL s.data.toList).toArray⟩, .int .i64 0, .bool true]) ∧ Below w.heap.size w w' := by
  obtain ⟨i0, hi, hz0, hz1, hz2⟩ := info_parts Try.infoX8
  have hwr : ∀ w, Calls Try.prog 38 #[.string s] w fun e w' => e = .returned (.int .i64 (s.size : Int)) ∧ w = w' := by
    intro w
    have h := wrong_any s w (by unfold maxLen; omega)
    rw [hbad_all ha] at h
    simpa using h
  have HW := Lib.hid hwr; clear hwr
  have HA := Lib.hid ha; clear ha
  have HE := Lib.hid he; clear he
  have t : ((s.size : Int) % 2 == 1) = false := by have := HE.out; apply beq_false_of_ne; omega
  go_enter Try.func36, Try.ntmps36
  go_wp2_with (first | (go_at_call 38; refine (HW.out _).mono ?_; rintro e w' ⟨rfl, rfl⟩) | (at_make; refine wpList_make_own _ rfl _ _ 63 rfl w.heap.size 5 i0 (.int .u8 0) 1 Try.underlying63 hi hz0 hz1 _ _ _ (s.size / 2) rfl rfl (by omega) ?b2 ?b3 ?b4 ?_))
  case b2 => rw [hz2]; omega
  case b3 => unfold maxLen; omega
  case b4 => exact Nat.le_refl _
  intro w1 hown hg
  have hb1 : Below w.heap.size w w1 := (Below.refl _ _).grown hg (Nat.le_refl _) (by simp)
  clear hg
  have HO := Lib.hid hown; clear hown
  go_wp2
  go_loopw [6, 7] (fun v i wr => ∃ k j cap g : Nat, k ≤ s.size ∧ i = .int .i64 (k : Int) ∧ v = .slice (some ⟨g, 0, none⟩) j cap ∧ 2 * j = k ∧ wr.ownsRow w.heap.size 5 1 (.slice (some ⟨g, 0, none⟩) j cap) j ((hgetL (s.data.toList.take k)).map xb) ∧ Below w.heap.size w wr) (fun _ i _ => s.size - (intOf i).toNat)
  case atStart => exact ⟨0, 0, s.size / 2, w.heap.size, Nat.zero_le _, rfl, rfl, rfl, HO.out, hb1⟩
  case round =>
    obtain ⟨k, j, cap, g, hk, rfl, rfl, hj, hown, hb⟩ := hrel
    have HJ := Lib.hid hj; clear hj
    by_cases hlt : k < s.size
    · have hlt1 : k + 1 < s.size := by have := HE.out; have := HJ.out; omega
      have HOW := Lib.hid hown; clear hown HO hb1
      have hix0 := ix_str s k hlt
      have hix1 := ix_str1 s k hlt1
      have hst := hget_step s k j hlt1 HJ.out
      have xa := isX_at HA.out k hlt
      have xc := isX_at HA.out (k + 1) hlt1
      generalize s[k] = a at hix0 hst xa
      generalize s[k + 1] = b at hix1 hst xc
      have da := fun w => digit_yes a w xa
      have db := fun w => digit_yes b w xc
      have pa : xv a ≤ 15 := by have := xv_lt xa; omega
      have pb : xv b ≤ 15 := by have := xv_lt xc; omega
      generalize xv a = p at da hst pa
      generalize xv b = q at db hst pb
      have HS := Lib.hid hst; clear hst xa xc
      have DA := Lib.hid da; clear da
      have DB := Lib.hid db; clear db
      go_wp2_with fail
      refine (DA.out _).mono ?_
      rintro e w' ⟨rfl, rfl⟩
      go_wp2_with fail
      refine (DB.out _).mono ?_
      rintro e w' ⟨rfl, rfl⟩
      have hor := or_join p q pa pb
      obtain ⟨r, hr⟩ : ∃ r, r = 16 * p + q := ⟨_, rfl⟩
      rw [← hr] at hor HS
      have hr1 : (r : Int) % 256 = (r : Int) := by omega
      have hr2 : xb (UInt8.ofNat r) = .int .u8 (r : Int) := by unfold xb; rw [UInt8.toNat_ofNat', Nat.mod_eq_of_lt (by omega)]
      have HR := Lib.hid hr2; clear hr2 hr
      have hj5 : j ≤ 1000000000 := by have := HJ.out; omega
      have hbz := hb.size
      go_wp2_with (at_builtin; refine wpList_append_lies _ rfl _ _ _ rfl w.heap.size 5 i0 _ 1 1 Try.underlying63 hi hz0 hz1 hz2 rfl (by omega) (.slice (some ⟨g, 0, none⟩) j cap) j _ rfl (HOW.out.alloc _) ⟨wr.heap.size, 0, none⟩ 1 1 [.int .u8 (r : Int)] rfl rfl (World.news_of_block (cs := #[.int .u8 (r : Int)]) (t := 5) (fr := (0, 0)) (heap_alloc_new wr _)) (by simp [Value.oneCell']) (by omega) (by unfold maxLen; omega) (by omega) (by simp; omega) (wr.heap.size + 1) (by simp) ?_; intro g' cap' w2 hown2 hgrow hat hlt2)
      have hb2 : Below w.heap.size w w2 := (hb.alloc hbz _).grown hgrow (by simp; omega) (by intro q hq; have := own_base HOW.out; simp [Value.ownBlock] at hq; omega)
      have HW2 := Lib.hid hown2; clear hown2 hgrow hat hlt2
      go_wp2
      go_roundw
      case rel => exact ⟨k + 2, j + 1, cap', g', by omega, by go_num, rfl, by have := HJ.out; omega, by rw [HS.out, List.map_append]; have h := HW2.out; rw [← HR.out] at h; exact h, hb2⟩
      case measure => simp [intOf]; omega
    · have hcv : (convert 63 9 (.slice (some ⟨g, 0, none⟩) j cap)).run Try.prog wr = .ok (.string ⟨(hgetL s.data.toList).toArray⟩) wr := by
        have hl : hgetL (s.data.toList.take k) = hgetL s.data.toList := by rw [List.take_of_length_le (by simp; omega)]
        have hlen : (hgetL s.data.toList).length = j := by rw [hgetL_length]; have := HJ.out; simp; omega
        have h := run_convert_bytes_back (P := Try.prog) wr 63 9 5 ⟨g, 0, none⟩ cap (hgetL s.data.toList) Try.underlying63 Try.underlying5 Try.underlying9 (by
          intro i hi
          rw [hl] at hown
          have hc := hown.cellAt i (by omega)
          rw [show (⟨g, 0, none⟩ : Addr).add i = ⟨g, i, none⟩ from by rw [Addr.add_lit, Nat.zero_add], hc]
          simp [xb, hi])
        rw [hlen] at h
        exact h
      clear hown HO hb1
      go_wp2
      go_ret3
      exact ⟨rfl, hb⟩

theorem hget_any (s : ByteArray) (w : World) (hs : s.size ≤ 1000000000) :
    Calls Try.prog 36 #[.string s] w fun e w' => e = .returned (.tuple #[.string (hgetS s.data.toList), .int .i64 (hgetI s.data.toList), .bool (hgetB s.data.toList)]) ∧ Below w.heap.size w w' := by
  have hl : s.data.toList.length = s.size := by simp
  by_cases h : s.data.toList.all isX = true ∧ s.size % 2 = 0
  · have hb : hgetB s.data.toList = true := hgetB_yes h.1 (by rw [hl]; exact h.2)
    rw [hgetS_yes hb, hgetI_yes hb, hb]
    exact hget_yes s w hs h.1 h.2
  · have h' : s.data.toList.all isX = false ∨ s.size % 2 = 1 := by
      cases g : s.data.toList.all isX
      · exact Or.inl rfl
      · exact Or.inr (by have : ¬ s.size % 2 = 0 := fun e => h ⟨g, e⟩; omega)
    have hb : hgetB s.data.toList = false := hgetB_no (by rw [hl]; exact h')
    rw [hgetS_no hb, hgetI_no hb, hb]
    exact hget_no s w hs h'

end Go.Proofs.Ytdnckiaeeikbhaa
