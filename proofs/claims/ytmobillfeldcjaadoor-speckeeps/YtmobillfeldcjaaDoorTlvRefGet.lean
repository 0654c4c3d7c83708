/-
  What the document's Get answers: for every text of up to 1,000,000 bytes, in every world.
-/
import Derived.Test.YtmobillfeldcjaaDoorTlvGet
import Derived.Test.YtmobillfeldcjaaDoorTlvFind
import Derived.Test.YtmobillfeldcjaaDoorTagRefGet
import Derived.Test.YtmobillfeldcjaaDoorBerRefGet
namespace Go.Proofs.YtmobillfeldcjaaDoor
open Go.RowKit Go.Maps

set_option maxRecDepth 100000 in
set_option maxHeartbeats 6400000 in
theorem tlvrefGet_any (s : ByteArray) (w : World) (hs : s.size ≤ 1000000) :
    Calls Tryd.prog 20 #[.string s] w fun e w' => ∃ A cap, e = .returned (.tuple #[.slice A (tlvN s).2.2.length cap, .int .i64 ((tlvN s).1 : Int), .int .i64 ((tlvN s).2.1 : Int)]) ∧ Tlvs w' A (tlvN s).2.2 ∧ Below w.heap.size w w' := by
  obtain ⟨i0, hi, hz0, hz1, hz2⟩ := info_parts Tryd.infoTlv
  have HO0 : Hid ((w.alloc (.cells #[] 49)).ownsRow w.heap.size 49 2 (.slice (some ⟨w.heap.size, 0, none⟩) 0 0) 0 []) := World.ownsRow_lit w #[] 0 (Nat.le_refl _) (by unfold maxLen; omega) rfl
  go_enter Tryd.func20, Tryd.ntmps20
  go_wp2
  go_loopw [5, 6] (fun v i wr => ∃ (p : Nat) (l : List Item), p ≤ s.size ∧ i = .int .i64 (p : Int) ∧ Reads s p l ∧ wr.ownsRow w.heap.size 49 2 v l.length (itemsC l) ∧ Below w.heap.size w wr) (fun _ i _ => s.size - (intOf i).toNat)
  case atStart => exact ⟨0, [], Nat.zero_le _, rfl, reads_start s, HO0.out, below_al _ _⟩
  case round =>
    obtain ⟨p, l, hp, rfl, hR, hown, hb⟩ := hrel
    have HR := Lib.hid hR
    have HO := Lib.hid hown
    have HB := Lib.hid hb
    obtain ⟨A, cap, rfl, _⟩ := tlvs_own hown rfl
    clear hR hown hb HO0
    have hl : s.data.toList.length = s.size := by simp
    have HLP : Hid (l.length ≤ p) := by obtain ⟨k, h1, h2, h3, h4⟩ := HR.out; exact h4
    by_cases hlt : p < s.size
    · have HT := Lib.hid (fun W => trefGet_any p s W hs hp)
      unfold tgetV at HT
      have HER := Lib.hid (HR.out.err hlt)
      have HTW := Lib.hid (HR.out.twice hlt)
      have HST := Lib.hid (HR.out.step hlt)
      by_cases h1 : (tget s.data.toList p).2.2 = 0
      · obtain ⟨t1, t2, t3, t4, t5⟩ := tget_put h1
        rw [h1] at HT
        have HN := Lib.hid (fun W => berrefGet_any (tget s.data.toList p).2.1 s W hs (by omega))
        unfold bergetV at HN
        by_cases h2 : (berGet s.data.toList (tget s.data.toList p).2.1).2.2 = 0
        · obtain ⟨b1, b2, b3, b4⟩ := berGet_put h2
          rw [h2] at HN
          by_cases h3 : s.data.toList.length < (berGet s.data.toList (tget s.data.toList p).2.1).2.1 + (berGet s.data.toList (tget s.data.toList p).2.1).1
          · rw [stepG_cut h1 h2 h3] at HER
            have HE := Lib.hid (HER.out (by simp))
            rw [hl] at h3 b3
            clear HER HTW HST b2 b4 t4 t5 t1 h1 h2
            generalize (tget s.data.toList p).1 = t at *
            generalize (tget s.data.toList p).2.1 = q at *
            generalize (berGet s.data.toList q).1 = n at *
            generalize (berGet s.data.toList q).2.1 = f at *
            rw [hl] at HE
            clear hl t3
            go_wp2_with fail
            refine (HT.out _).mono ?_
            rintro e w1 ⟨rfl, hb1⟩
            have HB1 := Lib.hid (hbt HB.out hb1)
            clear hb1
            go_wp2_with fail
            refine (HN.out _).mono ?_
            rintro e w2 ⟨rfl, hb2⟩
            have HB2 := Lib.hid (hbt HB1.out hb2)
            clear hb2
            have h3' : (s.size : Int) - (f : Int) < (n : Int) := by omega
            go_wp2
            go_ret3
            exact ⟨none, 0, by rw [HE.out]; rfl, by rw [HE.out]; exact tlvs_nil _ _, HB2.out⟩
          · have hz : (stepG s.data.toList p).1 = 0 := by rw [stepG_yes h1 h2 (by omega)]
            have HTW2 := Lib.hid (HTW.out hz)
            have HST2 := Lib.hid (HST.out hz)
            have hn := stepG_next hz
            rw [stepG_yes h1 h2 (by omega)] at HTW2 HST2 hn
            dsimp only at HTW2 HST2 hn
            have HH := Lib.hid (fun W A cap h => tlvhas_any A cap l l.length ((tget s.data.toList p).1 : Int) W h (Nat.le_refl _) (by have := HLP.out; omega))
            have HHB : Hid (hasB l l.length ((tget s.data.toList p).1 : Int) = decide (((tget s.data.toList p).1 : Int) ∈ tagsOf l)) := by
              show hasB l l.length _ = _
              unfold hasB; rw [List.take_of_length_le (Nat.le_refl _)]
            rw [hl] at h3 b3 hn
            clear HER HTW HST b2 b4 t4 t5 t1 h1 h2 hz
            generalize (tget s.data.toList p).1 = t at *
            generalize (tget s.data.toList p).2.1 = q at *
            generalize (berGet s.data.toList q).1 = n at *
            generalize (berGet s.data.toList q).2.1 = f at *
            clear hl t3
            have hn1 := hn.1
            clear hn
            generalize hlen : l.length = len at *
            have HLEN := Lib.hid hlen
            have h3' : decide ((s.size : Int) - (f : Int) < (n : Int)) = false := by simp; omega
            have hfn : f + n ≤ s.size := by omega
            have hlc : len ≤ 5000000 := by have := HLP.out; omega
            have hff : f ≤ f + n := by omega
            clear hlen b1 b3 t2
            go_wp2_with fail
            refine (HT.out _).mono ?_
            rintro e w1 ⟨rfl, hb1⟩
            have HB1 := Lib.hid (hbt HB.out hb1)
            have HO1 := Lib.hid (owns_below HO.out hb1)
            clear hb1
            go_wp2_with fail
            refine (HN.out _).mono ?_
            rintro e w2 ⟨rfl, hb2⟩
            have HB2 := Lib.hid (hbt HB1.out hb2)
            have HO2 := Lib.hid (owns_below HO1.out hb2)
            clear hb2
            obtain ⟨A', cap', hv, hT⟩ := tlvs_own HO2.out HLEN.out.symm
            injection hv with hA hB hC
            subst hA
            have HTL := Lib.hid hT
            clear hT hB hC HO HO1 HT HN HB HB1
            go_wp2_with fail
            refine (HH.out _ _ cap HTL.out).mono ?_
            rintro e w3 ⟨rfl, rfl⟩
            rw [HHB.out]
            by_cases hm : (t : Int) ∈ tagsOf l
            · have HE := Lib.hid (HTW2.out hm)
              rw [decide_eq_true hm]
              clear hm HTW2 HST2
              go_wp2
              go_ret3
              exact ⟨none, 0, by rw [HE.out]; rfl, by rw [HE.out]; exact tlvs_nil _ _, HB2.out⟩
            · have HE := Lib.hid (HST2.out hm)
              rw [decide_eq_false hm]
              clear hm HTW2 HST2 HH HHB
              have HO3 := Lib.hid (HO2.out.alloc (.cells #[.int .i64 (t : Int), .string (s.extract f (f + n))] 49))
              go_wp2_with (at_builtin; refine wpList_append_lies _ rfl _ _ _ rfl w.heap.size 49 i0 _ 2 24 Tryd.underlying37 hi hz0 hz1 hz2 rfl (by omega) _ len (itemsC l) rfl HO3.out ⟨w2.heap.size, 0, none⟩ 1 1 (itemC ((t : Int), s.extract f (f + n))) rfl rfl (World.news_of_block (cs := #[.int .i64 (t : Int), .string (s.extract f (f + n))]) (t := 49) (fr := (0, 0)) (heap_alloc_new w2 _)) (by simp [itemC, Value.oneCell']) (by omega) (by unfold maxLen; omega) (by omega) (by have := HB2.out.size; simp; omega) (w2.heap.size + 1) (by simp) ?_; intro g' cap' w4 hown4 hgrow4 hat4 hlt4)
              have HO4 := Lib.hid hown4
              have HB4 := Lib.hid ((hbt HB2.out (below_al _ _)).grown hgrow4 (by have := HB2.out.size; simp; omega) (fun q hq => (HO3.out.lt q hq).1))
              clear hown4 hgrow4 hat4 hlt4
              go_wp2
              go_roundw
              case rel =>
                refine ⟨f + n, l ++ [((t : Int), s.extract f (f + n))], by omega, by go_num, HE.out, ?_, HB4.out⟩
                rw [itemsC_snoc, List.length_append, HLEN.out]; exact HO4.out
              case measure => simp [intOf]; omega
        · have hz : (stepG s.data.toList p).1 ≠ 0 := by rw [stepG_len h1 h2]; exact h2
          have HE := Lib.hid (HER.out hz)
          rw [stepG_len h1 h2] at HE
          dsimp only at HE
          have h2' : (((berGet s.data.toList (tget s.data.toList p).2.1).2.2 : Int) == 0) = false := by simp; omega
          clear HER HTW HST t4 t5 t1 h1 h2 hz hl t3
          generalize (tget s.data.toList p).1 = t at *
          generalize (tget s.data.toList p).2.1 = q at *
          generalize (berGet s.data.toList q).1 = n at *
          generalize (berGet s.data.toList q).2.1 = f at *
          generalize (berGet s.data.toList q).2.2 = b at *
          go_wp2_with fail
          refine (HT.out _).mono ?_
          rintro e w1 ⟨rfl, hb1⟩
          have HB1 := Lib.hid (hbt HB.out hb1)
          clear hb1
          go_wp2_with fail
          refine (HN.out _).mono ?_
          rintro e w2 ⟨rfl, hb2⟩
          have HB2 := Lib.hid (hbt HB1.out hb2)
          clear hb2
          go_wp2
          go_ret3
          exact ⟨none, 0, by rw [HE.out]; rfl, by rw [HE.out]; exact tlvs_nil _ _, HB2.out⟩
      · have hz : (stepG s.data.toList p).1 ≠ 0 := by rw [stepG_tag h1]; exact h1
        have HE := Lib.hid (HER.out hz)
        rw [stepG_tag h1] at HE
        dsimp only at HE
        have h2' : (((tget s.data.toList p).2.2 : Int) == 0) = false := by simp; omega
        clear HER HTW HST h1 hz hl
        generalize (tget s.data.toList p).1 = t at *
        generalize (tget s.data.toList p).2.1 = q at *
        generalize (tget s.data.toList p).2.2 = b at *
        go_wp2_with fail
        refine (HT.out _).mono ?_
        rintro e w1 ⟨rfl, hb1⟩
        have HB1 := Lib.hid (hbt HB.out hb1)
        clear hb1
        go_wp2
        go_ret3
        exact ⟨none, 0, by rw [HE.out]; rfl, by rw [HE.out]; exact tlvs_nil _ _, HB1.out⟩
    · have HE := Lib.hid (HR.out.done (by omega))
      obtain ⟨A', cap', hv, hT⟩ := tlvs_own HO.out rfl
      injection hv with hA hB hC
      subst hA
      have HT := Lib.hid hT
      clear hT HO hB hC hl
      go_wp2
      go_ret3
      exact ⟨A, cap, by rw [HE.out]; rfl, by rw [HE.out]; exact HT.out, HB.out⟩

end Go.Proofs.YtmobillfeldcjaaDoor
