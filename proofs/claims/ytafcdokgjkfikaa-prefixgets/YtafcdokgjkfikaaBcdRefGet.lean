/-
  What the document's Get answers: for every text and every count, in every world.
-/
import Derived.Test.YtafcdokgjkfikaaBcdGet
namespace Go.Proofs.Ytafcdokgjkfikaa
open Go.RowKit

theorem brefGet_arg (b : ByteArray) (z : Int) (w : World) (h : z < 0 ∨ 999 < z) :
    Calls Try.prog 24 #[.string b, .int .i64 z] w fun e w' => e = .returned (bgetV ([], 1, 0)) ∧ Below w.heap.size w w' := by
  by_cases h0 : z < 0
  · have t1 : decide (z < 0) = true := by simpa using h0
    clear h
    go_enter Try.func24, Try.ntmps24
    go_wp2
    go_ret3
    exact ⟨rfl, Below.refl _ _⟩
  · have t1 : decide (z < 0) = false := by simpa using h0
    have t2 : decide (999 < z) = true := by simp; omega
    clear h
    go_enter Try.func24, Try.ntmps24
    go_wp2
    go_ret3
    exact ⟨rfl, Below.refl _ _⟩

theorem brefGet_cut (b : ByteArray) (n : Nat) (w : World) (h : n ≤ 999) (h1 : b.size < (n + 1) / 2) :
    Calls Try.prog 24 #[.string b, .int .i64 (n : Int)] w fun e w' => e = .returned (bgetV ([], 2, b.size)) ∧ Below w.heap.size w w' := by
  have t1 : decide ((n : Int) < 0) = false := by simp
  have t2 : decide ((999 : Int) < (n : Int)) = false := by simp; omega
  have t3 : (b.size : Int) < ((n : Int) + 1) / 2 := by omega
  go_enter Try.func24, Try.ntmps24
  go_wp2
  go_ret3
  exact ⟨rfl, Below.refl _ _⟩

/-- 'string([]byte{c})' in the world that the literal leaves. -/
theorem conv_dig (q : Nat) (hq : q < 16) (w : World) :
    (convert 49 9 (.slice (some ⟨w.heap.size, 0, none⟩) 1 1)).run Try.prog (w.alloc (.cells #[.int .u8 (48 + (q : Int))] 5)) = .ok (.string ⟨#[UInt8.ofNat (48 + q)]⟩) (w.alloc (.cells #[.int .u8 (48 + (q : Int))] 5)) := by
  have h := run_convert_bytes_back (P := Try.prog) (w.alloc (.cells #[.int .u8 (48 + (q : Int))] 5)) 49 9 5 ⟨w.heap.size, 0, none⟩ 1 [UInt8.ofNat (48 + q)] Try.underlying49 Try.underlying5 Try.underlying9 (by
    intro j hj
    have hj0 : j = 0 := by simpa using hj
    subst hj0
    have e : ((UInt8.ofNat (48 + q)).toNat : Int) = 48 + (q : Int) := by rw [UInt8.toNat_ofNat']; omega
    simp [Addr.add]
    omega)
  exact h

theorem toList_len (o : ByteArray) : o.toList.length = o.size := by rw [ByteArray.toList_eq]; simp

/-- What is got so far. -/
def gotL (l : List UInt8) (d i : Nat) : ByteArray := ⟨((List.range i).map fun t => gdig l (t + d)).toArray⟩
theorem gotL_size (l : List UInt8) (d i : Nat) : (gotL l d i).size = i := by show (((List.range i).map fun t => gdig l (t + d)).toArray).size = i; simp
theorem gotL_next (l : List UInt8) (d i q : Nat) (hq : hb l (i + d) = q) : gotL l d i ++ ⟨#[UInt8.ofNat (48 + q)]⟩ = gotL l d (i + 1) := by
  subst hq
  unfold gotL
  rw [ByteArray.mk_append_mk, List.range_succ, List.map_append]
  simp [gdig]
theorem gotL_end (l : List UInt8) (n : Nat) : gotL l (n % 2) n = ⟨(bgetL l n).toArray⟩ := rfl

/-- The round's relation; d: the halves that stand for no digit. -/
def RGRel (l : List UInt8) (n d : Nat) (w : World) (v i : Value) (wr : World) : Prop :=
  ∃ k : Nat, k ≤ n ∧ i = .int .i64 ((k + d : Nat) : Int) ∧ v = .string (gotL l d k) ∧ (∀ i, i < k → hb l (i + d) ≤ 9) ∧ (0 < k → d = 1 → hb l 0 = 0) ∧ Below w.heap.size w wr

set_option maxHeartbeats 3200000 in
theorem brefGet_in (b : ByteArray) (n : Nat) (w : World) (h : n ≤ 999) (h1 : (n + 1) / 2 ≤ b.size) :
    Calls Try.prog 24 #[.string b, .int .i64 (n : Int)] w fun e w' => e = .returned (bgetV (bget b.data.toList n)) ∧ Below w.heap.size w w' := by
  have hbl : b.data.toList.length = b.size := by simp
  have t1 : decide ((n : Int) < 0) = false := by simp
  have t2 : decide ((999 : Int) < (n : Int)) = false := by simp; omega
  have t3 : ¬ (b.size : Int) < ((n : Int) + 1) / 2 := by omega
  have H1 := Lib.hid h1
  clear h1
  obtain ⟨d, HD⟩ : ∃ d, Hid (n % 2 = d) := ⟨_, rfl⟩
  have hd1 : d ≤ 1 := by have := HD.out; omega
  have e1 : 2 * (((n : Int) + 1) / 2) = (n : Int) + (d : Int) := by have := HD.out; omega
  have e2 : (n : Int) + (d : Int) - (n : Int) = (d : Int) := by omega
  go_enter Try.func24, Try.ntmps24
  go_wp2
  go_loopw [8, 9] (RGRel b.data.toList n d w) (fun _ i _ => n + d - (intOf i).toNat)
  case atStart => exact ⟨0, Nat.zero_le _, by rw [Nat.zero_add], rfl, fun i hi => absurd hi (by omega), fun h => absurd h (by omega), Below.refl _ _⟩
  case round =>
    obtain ⟨k, hk, rfl, rfl, hall, hpad, hb'⟩ := hrel
    by_cases hlt : k < n
    · have hpb : (k + d) / 2 < b.size := by have := H1.out; have := HD.out; omega
      have hix := ix_str b ((k + d) / 2) hpb
      have hgb : b.data.toList.getD ((k + d) / 2) 0 = b[(k + d) / 2] := getD_in _ _ _ (by omega)
      have hhb : hb b.data.toList (k + d) = if (k + d) % 2 = 0 then b[(k + d) / 2].toNat / 16 else b[(k + d) / 2].toNat % 16 := by
        unfold hb; rw [hgb]
      have hh0 : (k + d) / 2 = 0 → hb b.data.toList 0 = b[(k + d) / 2].toNat / 16 := by
        intro h0
        unfold hb
        rw [if_pos (by omega), Nat.zero_div, ← hgb, h0]
      have HG := Lib.hid (gotL_next b.data.toList d k)
      have hgs := gotL_size b.data.toList d k
      have HGS := Lib.hid hgs
      have HPAD := Lib.hid hpad
      have HALL := Lib.hid hall
      have HF := Lib.hid (fun (hp : n % 2 = 1 → hb b.data.toList 0 = 0) (h9 : 9 < hb b.data.toList (k + n % 2)) => bget_form (l := b.data.toList) h (by rw [hbl]; exact H1.out) hp hlt h9 (by rw [HD.out]; exact hall))
      rw [HD.out] at HF
      have HH0 := Lib.hid hh0
      have HHB := Lib.hid hhb
      have hpp : k + d ≤ 1000 := by omega
      have hpn : ((k + d : Nat) : Int) < (n : Int) + (d : Int) := by omega
      clear hall hpad hgb hh0 hhb
      have hc := b[(k + d) / 2].toNat_lt
      rw [show (((k + d) / 2 : Nat) : Int) = ((k + d : Nat) : Int) / 2 from by omega] at hix
      have hadd : ∀ q (W : World), (Op.stringOp .add (gotL b.data.toList d k) ⟨#[UInt8.ofNat (48 + q)]⟩).run Try.prog W = .ok (.string (gotL b.data.toList d k ++ ⟨#[UInt8.ofNat (48 + q)]⟩)) W := by
        intro q W
        rw [run_string_add_sum W _ _ (by rw [hgs]; show k + 1 ≤ _; omega)]
      have HADD := Lib.hid hadd
      clear hadd
      generalize b[(k + d) / 2] = c at *
      generalize hgo : gotL b.data.toList d k = o at *
      rcases Nat.eq_or_lt_of_le hk with hkn | _
      · exact absurd hkn (by omega)
      by_cases hone : k + d = 1
      · have hpar : (k + d) % 2 = 1 := by omega
        have e1p : ((k + d : Nat) : Int) = 1 := by omega
        have hix0 : ∀ w, (Instr.index 9 (.string b) (.int .i64 0)).run Try.prog w = .ok (.int .u8 ((c.toNat : Nat) : Int)) w := by
          rw [show (0 : Int) = ((k + d : Nat) : Int) / 2 from by omega]; exact hix
        clear hix
        by_cases hd0 : d = 0
        · have hpadk : d = 1 → hb b.data.toList 0 = 0 := fun h2 => absurd h2 (by omega)
          have HPK := Lib.hid hpadk
          clear hpadk
          have hne : ¬ o.toList = [] := fun e => by have e2 := congrArg List.length e; rw [toList_len] at e2; have e3 : o.size = 0 := e2; omega
          have hk1 : k = 1 := by omega
          have HK1 := Lib.hid hk1
          clear hd0 hk1 hone
          have hQ : hb b.data.toList (k + d) = c.toNat % 16 := by rw [HHB.out, if_neg (by omega)]
          have HQ := Lib.hid hQ
          clear hQ
          have hq16 : c.toNat % 16 < 16 := by omega
          have hqe : (c.toNat : Int) % 16 = ((c.toNat % 16 : Nat) : Int) := by omega
          clear HHB hpar
          generalize c.toNat % 16 = q at HQ hq16 hqe
          by_cases h9 : 9 < q
          · have HR := Lib.hid (HF.out HPK.out (by rw [HQ.out]; exact h9))
            rw [show (k + d) / 2 = 0 from by omega] at HR
            clear HF
            rw [e1p] at hpn ⊢
            go_wp2
            go_ret3
            exact ⟨by rw [HR.out]; rfl, hb'⟩
          · have hsum : IntKind.u8.wrap (48 + (q : Int)) = 48 + (q : Int) := IntWalk.u8_in _ (by omega)
            have hcv := conv_dig q hq16 wr
            have hadd := HADD.out q
            have HG2 := Lib.hid (HG.out q HQ.out)
            have hbz := hb'.size
            clear HF HG HADD
            generalize UInt8.ofNat (48 + q) = x at hcv hadd HG2
            rw [e1p] at hpn ⊢
            go_wp2
            go_roundw
            case rel =>
              refine ⟨k + 1, by omega, by rw [show k + 1 + d = 2 from by omega]; go_num, by rw [HG2.out], fun i hi => ?_, fun _ h => HPK.out h, hb'.alloc hbz _⟩
              by_cases hik : i < k
              · exact HALL.out i hik
              · rw [show i = k from by omega, HQ.out]; omega
            case measure => simp [intOf]; omega
        · have ho : o = ⟨#[]⟩ := by rw [← hgo, show k = 0 from by omega]; rfl
          subst ho
          have hk0 : k = 0 := by omega
          have HK1 := Lib.hid hk0
          have HD1 : Hid (d = 1) := by unfold Hid; omega
          clear hd0 hk0 hone
          by_cases h00 : c.toNat / 16 = 0
          · have hpadk : d = 1 → hb b.data.toList 0 = 0 := fun _ => by rw [HH0.out (by omega)]; exact h00
            have HPK := Lib.hid hpadk
            clear hpadk
            have h00' : ((c.toNat : Int) / 16 != 0) = false := by simp; omega
            have h00'' : (c.toNat : Int) / 16 = 0 := by omega
            have hQ : hb b.data.toList (k + d) = c.toNat % 16 := by rw [HHB.out, if_neg (by omega)]
            have HQ := Lib.hid hQ
            clear hQ
            have hq16 : c.toNat % 16 < 16 := by omega
            have hqe : (c.toNat : Int) % 16 = ((c.toNat % 16 : Nat) : Int) := by omega
            clear HHB hpar
            generalize c.toNat % 16 = q at HQ hq16 hqe
            by_cases h9 : 9 < q
            · have HR := Lib.hid (HF.out HPK.out (by rw [HQ.out]; exact h9))
              rw [show (k + d) / 2 = 0 from by omega] at HR
              clear HF
              rw [e1p] at hpn ⊢
              go_wp2
              go_ret3
              exact ⟨by rw [HR.out]; rfl, hb'⟩
            · have hsum : IntKind.u8.wrap (48 + (q : Int)) = 48 + (q : Int) := IntWalk.u8_in _ (by omega)
              have hcv := conv_dig q hq16 wr
              have hadd := HADD.out q
              have HG2 := Lib.hid (HG.out q HQ.out)
              have hbz := hb'.size
              clear HF HG HADD
              generalize UInt8.ofNat (48 + q) = x at hcv hadd HG2
              rw [e1p] at hpn ⊢
              go_wp2
              go_roundw
              case rel =>
                refine ⟨k + 1, by omega, by rw [show k + 1 + d = 2 from by omega]; go_num, by rw [HG2.out], fun i hi => ?_, fun _ h => HPK.out h, hb'.alloc hbz _⟩
                by_cases hik : i < k
                · exact HALL.out i hik
                · rw [show i = k from by omega, HQ.out]; omega
              case measure => simp [intOf]; omega
          · have HR : Hid (bget b.data.toList n = ([], 4, 0)) := bget_pad h (by rw [hbl]; exact H1.out) (by have := HD.out; have := HD1.out; omega) (by rw [HH0.out (by omega)]; exact h00)
            have h00' : ((c.toNat : Int) / 16 != 0) = true := by rw [bne_iff_ne]; omega
            rw [e1p] at hpn ⊢
            clear HF HG HADD HHB
            go_wp2
            go_ret3
            exact ⟨by rw [HR.out]; rfl, hb'⟩
      · have hpadk : d = 1 → hb b.data.toList 0 = 0 := fun h2 => HPAD.out (by omega) h2
        have HPK := Lib.hid hpadk
        clear hpadk
        have hone' : ¬ ((k + d : Nat) : Int) = 1 := by omega
        rcases Nat.mod_two_eq_zero_or_one (k + d) with hpar | hpar
        · skip
          have hQ : hb b.data.toList (k + d) = c.toNat / 16 := by rw [HHB.out, if_pos hpar]
          have HQ := Lib.hid hQ
          clear hQ
          have hq16 : c.toNat / 16 < 16 := by omega
          have hqe : (c.toNat : Int) / 16 = ((c.toNat / 16 : Nat) : Int) := by omega
          have hpar' : ((k + d : Nat) : Int) % 2 = 0 := by omega
          clear HHB hpar
          generalize c.toNat / 16 = q at HQ hq16 hqe
          by_cases h9 : 9 < q
          · have HR := Lib.hid (HF.out HPK.out (by rw [HQ.out]; exact h9))
            clear HF
            generalize k + d = p at *
            go_wp2
            go_ret3
            exact ⟨by rw [HR.out]; rfl, hb'⟩
          · have hsum : IntKind.u8.wrap (48 + (q : Int)) = 48 + (q : Int) := IntWalk.u8_in _ (by omega)
            have hcv := conv_dig q hq16 wr
            have hadd := HADD.out q
            have HG2 := Lib.hid (HG.out q HQ.out)
            have hbz := hb'.size
            clear HF HG HADD
            generalize UInt8.ofNat (48 + q) = x at hcv hadd HG2
            generalize hpk : k + d = p at *
            have HPP := Lib.hid hpk
            clear hpk
            go_wp2
            go_roundw
            case rel =>
              have hpp := HPP.out
              refine ⟨k + 1, by omega, by rw [show k + 1 + d = p + 1 from by omega]; go_num, by rw [HG2.out], fun i hi => ?_, fun _ h => HPK.out h, hb'.alloc hbz _⟩
              by_cases hik : i < k
              · exact HALL.out i hik
              · rw [show i + d = p from by omega, HQ.out]; omega
            case measure => simp [intOf]; have := HPP.out; omega
        · skip
          have hQ : hb b.data.toList (k + d) = c.toNat % 16 := by rw [HHB.out, if_neg (by omega)]
          have HQ := Lib.hid hQ
          clear hQ
          have hq16 : c.toNat % 16 < 16 := by omega
          have hqe : (c.toNat : Int) % 16 = ((c.toNat % 16 : Nat) : Int) := by omega
          have hpar' : ((k + d : Nat) : Int) % 2 = 1 := by omega
          clear HHB hpar
          generalize c.toNat % 16 = q at HQ hq16 hqe
          by_cases h9 : 9 < q
          · have HR := Lib.hid (HF.out HPK.out (by rw [HQ.out]; exact h9))
            clear HF
            generalize k + d = p at *
            go_wp2
            go_ret3
            exact ⟨by rw [HR.out]; rfl, hb'⟩
          · have hsum : IntKind.u8.wrap (48 + (q : Int)) = 48 + (q : Int) := IntWalk.u8_in _ (by omega)
            have hcv := conv_dig q hq16 wr
            have hadd := HADD.out q
            have HG2 := Lib.hid (HG.out q HQ.out)
            have hbz := hb'.size
            clear HF HG HADD
            generalize UInt8.ofNat (48 + q) = x at hcv hadd HG2
            generalize hpk : k + d = p at *
            have HPP := Lib.hid hpk
            clear hpk
            go_wp2
            go_roundw
            case rel =>
              have hpp := HPP.out
              refine ⟨k + 1, by omega, by rw [show k + 1 + d = p + 1 from by omega]; go_num, by rw [HG2.out], fun i hi => ?_, fun _ h => HPK.out h, hb'.alloc hbz _⟩
              by_cases hik : i < k
              · exact HALL.out i hik
              · rw [show i + d = p from by omega, HQ.out]; omega
            case measure => simp [intOf]; have := HPP.out; omega
    · have hkn : k = n := by omega
      subst hkn
      have HRS : Hid (bget b.data.toList k = (bgetL b.data.toList k, 0, 0)) := bget_ok h (by rw [hbl]; exact H1.out) (by
        intro h2
        rcases Nat.eq_zero_or_pos k with h0 | h0
        · omega
        · exact hpad h0 (by rw [← HD.out]; exact h2)) (by rw [HD.out]; exact hall)
      have HE : Hid (gotL b.data.toList d k = ⟨(bgetL b.data.toList k).toArray⟩) := by
        unfold Hid; rw [← HD.out]; exact gotL_end _ _
      have hend : ¬ (((k + d : Nat) : Int) < (k : Int) + (d : Int)) := by omega
      clear hall hpad hlt
      generalize hpp : k + d = p at *
      generalize gotL b.data.toList d k = o at *
      go_wp2
      go_ret3
      exact ⟨by rw [HRS.out, HE.out]; rfl, hb'⟩

theorem brefGet_any (b : ByteArray) (z : Int) (w : World) :
    Calls Try.prog 24 #[.string b, .int .i64 z] w fun e w' => e = .returned (bgetV (bget b.data.toList z)) ∧ Below w.heap.size w w' := by
  have hbl : b.data.toList.length = b.size := by simp
  rcases bget_cases b.data.toList z with g | ⟨n, rfl, hn, g | ⟨hl, _⟩⟩
  · rw [bget_arg g]; exact brefGet_arg b z w g
  · rw [bget_cut hn g, hbl]; exact brefGet_cut b n w hn (by omega)
  · exact brefGet_in b n w hn (by omega)

end Go.Proofs.Ytafcdokgjkfikaa
