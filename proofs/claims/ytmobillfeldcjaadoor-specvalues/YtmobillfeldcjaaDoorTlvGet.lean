/-
  What Get answers: for every text of up to 5,000,000 bytes, in every world.
-/
import Derived.Test.YtmobillfeldcjaaDoorTlvStep
import Derived.Test.YtmobillfeldcjaaDoorTlvSeen
namespace Go.Proofs.YtmobillfeldcjaaDoor
open Go.RowKit Go.Maps

/-- Where the reading stands: the place, the list so far, and that the answer is what is still to come. -/
def Reads (s : ByteArray) (p : Nat) (l : List Item) : Prop := ∃ k, tlvF s k p l = tlvN s ∧ s.size < k + p ∧ p ≤ s.size ∧ l.length ≤ p
theorem reads_start (s : ByteArray) : Reads s 0 [] := ⟨s.size + 1, rfl, by omega, Nat.zero_le _, Nat.zero_le _⟩
theorem Reads.done {s : ByteArray} {p : Nat} {l : List Item} (h : Reads s p l) (hp : s.size ≤ p) : tlvN s = (0, 0, l) := by
  obtain ⟨k, h1, h2, h3, h4⟩ := h
  rw [← h1, tlvF_end hp]
theorem Reads.err {s : ByteArray} {p : Nat} {l : List Item} (h : Reads s p l) (hp : p < s.size) (he : (stepG s.data.toList p).1 ≠ 0) : tlvN s = ((stepG s.data.toList p).1, (stepG s.data.toList p).2.1, []) := by
  obtain ⟨k, h1, h2, h3, h4⟩ := h
  rw [← h1, tlvF_err hp h2 he]
theorem Reads.twice {s : ByteArray} {p : Nat} {l : List Item} (h : Reads s p l) (hp : p < s.size) (he : (stepG s.data.toList p).1 = 0) (ht : (((stepG s.data.toList p).2.2.1 : Nat) : Int) ∈ tagsOf l) : tlvN s = (10, p, []) := by
  obtain ⟨k, h1, h2, h3, h4⟩ := h
  rw [← h1, tlvF_twice hp h2 he ht]
theorem Reads.step {s : ByteArray} {p : Nat} {l : List Item} (h : Reads s p l) (hp : p < s.size) (he : (stepG s.data.toList p).1 = 0) (ht : (((stepG s.data.toList p).2.2.1 : Nat) : Int) ∉ tagsOf l) :
    Reads s (stepG s.data.toList p).2.1 (l ++ [((((stepG s.data.toList p).2.2.1 : Nat) : Int), s.extract (stepG s.data.toList p).2.2.2.1 ((stepG s.data.toList p).2.2.2.1 + (stepG s.data.toList p).2.2.2.2))]) := by
  obtain ⟨k, h1, h2, h3, h4⟩ := h
  obtain ⟨k', e1, e2⟩ := tlvF_step (l := l) hp h2 he ht
  have hn := stepG_next he
  have hl : s.data.toList.length = s.size := by simp
  exact ⟨k', by rw [← e1, h1], e2, by omega, by simp; omega⟩

set_option maxRecDepth 100000 in
set_option maxHeartbeats 6400000 in
theorem tlvget_any (s : ByteArray) (w : World) (hs : s.size ≤ 5000000) :
    Calls Tryd.prog 25 #[.string s] w fun e w' => ∃ A cap, e = .returned (.tuple #[.slice A (tlvN s).2.2.length cap, .int .i64 ((tlvN s).1 : Int), .int .i64 ((tlvN s).2.1 : Int)]) ∧ Tlvs w' A (tlvN s).2.2 ∧ Below w.heap.size w w' := by
  obtain ⟨i0, hi, hz0, hz1, hz2⟩ := info_parts Tryd.infoTlv
  have hmm := @run_makeMap Tryd.prog
  go_enter Tryd.func25, Tryd.ntmps25
  go_wp2
  go_loopw [5, 7] (fun v i wr => ∃ (p : Nat) (l : List Item), p ≤ s.size ∧ i = .int .i64 (p : Int) ∧ Reads s p l ∧ wr.ownsRow w.heap.size 49 2 v l.length (itemsC l) ∧ Seen wr w.heap.size (tagsOf l) ∧ Below w.heap.size w wr) (fun _ i _ => s.size - (intOf i).toNat)
  case atStart => exact ⟨0, [], Nat.zero_le _, rfl, reads_start s, World.ownsRow_nil _ _ _ _, seen_new w, below_al _ _⟩
  case round =>
    obtain ⟨p, l, hp, rfl, hR, hown, hS, hb⟩ := hrel
    have HR := Lib.hid hR
    have HO := Lib.hid hown
    have HS := Lib.hid hS
    have HB := Lib.hid hb
    clear hR hown hS hb
    by_cases hlt : p < s.size
    · by_cases he : (stepG s.data.toList p).1 = 0
      · have HC := Lib.hid (fun W => step_ok s p W hs hp he)
        have hn := stepG_next he
        have hl : s.data.toList.length = s.size := by simp
        have HT := Lib.hid (HR.out.twice hlt he)
        have HP := Lib.hid (HR.out.step hlt he)
        have HLP : Hid (l.length ≤ p) := by obtain ⟨k, h1, h2, h3, h4⟩ := HR.out; exact h4
        have hq : (stepG s.data.toList p).2.1 ≤ s.size := by omega
        have hq2 : p < (stepG s.data.toList p).2.1 := by omega
        have HTT := Lib.hid hn.2.2.2.2.2
        clear hn hl he
        generalize (stepG s.data.toList p).2.1 = q at *
        generalize (stepG s.data.toList p).2.2.1 = t at *
        generalize s.extract (stepG s.data.toList p).2.2.2.1 ((stepG s.data.toList p).2.2.2.1 + (stepG s.data.toList p).2.2.2.2) = x at *
        have HTZ : Hid ((Lit.int .i64 (t : Int)).wf = true) := by
          have : t < 65536 := by rcases HTT.out with h | h; · have := h.1; omega
                                 · exact h.2.1
          exact wf_i64 (by omega) (by omega)
        clear HTT
        go_wp2_with fail
        refine (HC.out _).mono ?_
        rintro e w1 ⟨rfl, hb1⟩
        have HB1 := Lib.hid (hbt HB.out hb1)
        have HO1 := Lib.hid ((owns_below HO.out hb1).alloc (.cells #[.int .i64 (t : Int), .string x] 49))
        have HS1 := Lib.hid ((HS.out.below hb1).below (below_al w1 (.cells #[.int .i64 (t : Int), .string x] 49)))
        have HM := Lib.hid (HS.out.below hb1).lt
        clear hb1
        have hlk := seen_look HS1.out HTZ.out
        by_cases hm : (t : Int) ∈ tagsOf l
        · rw [decide_eq_true hm] at hlk
          have HE := Lib.hid (HT.out hm)
          clear hm
          go_wp2
          go_ret3
          exact ⟨none, 0, by rw [HE.out]; rfl, by rw [HE.out]; exact tlvs_nil _ _, hbt HB1.out (below_al _ _)⟩
        · rw [decide_eq_false hm] at hlk
          have HE := Lib.hid (HP.out hm)
          clear hm
          obtain ⟨w3, hrun, hS3, hg3⟩ := seen_put HS1.out HTZ.out (by have := HLP.out; simp [tagsOf]; omega)
          have HS3 := Lib.hid hS3
          have hob : w3.heap[w1.heap.size]? = some (.cells #[.int .i64 (t : Int), .string x] 49) := (hg3.block _ (by simp) (fun e => by have := HM.out; injection e with e; omega)).trans (heap_alloc_new _ _)
          obtain ⟨d0, d1, _, _⟩ := obj_cells hob
          have HO3 := Lib.hid ((HO1.out.kept hg3 (Or.inr (own_seen HO1.out HS1.out))).alloc (.cells #[.int .i64 (t : Int), .string x] 49))
          have HB3 := Lib.hid ((hbt HB1.out (below_al _ (.cells #[.int .i64 (t : Int), .string x] 49))).grown hg3 (by have := HB1.out.size; simp; omega) (fun q hq => by cases hq; exact Nat.le_refl _))
          clear hS3 hg3 hob
          have hl5 : l.length ≤ 5000000 := by have := HLP.out; omega
          go_wp2_with (at_builtin; refine wpList_append_lies _ rfl _ _ _ rfl w.heap.size 49 i0 _ 2 24 Tryd.underlying37 hi hz0 hz1 hz2 rfl (by omega) _ l.length (itemsC l) rfl HO3.out ⟨w3.heap.size, 0, none⟩ 1 1 (itemC ((t : Int), x)) rfl rfl (World.news_of_block (cs := #[.int .i64 (t : Int), .string x]) (t := 49) (fr := (0, 0)) (heap_alloc_new w3 _)) (by simp [itemC, Value.oneCell']) (by omega) (by unfold maxLen; omega) (by omega) (by have := HB3.out.size; simp; omega) (w3.heap.size + 1) (by simp) ?_; intro g' cap' w4 hown4 hgrow4 hat4 hlt4)
          have HO4 := Lib.hid hown4
          have HS4 := Lib.hid ((HS3.out.below (below_al _ _)).kept hgrow4 (fun e => own_seen HO3.out (HS3.out.below (below_al _ _)) e.symm))
          have HB4 := Lib.hid ((hbt HB3.out (below_al _ _)).grown hgrow4 (by have := HB3.out.size; simp; omega) (fun q hq => (HO3.out.lt q hq).1))
          clear hown4 hgrow4 hat4 hlt4
          go_wp2
          go_roundw
          case rel =>
            refine ⟨q, l ++ [((t : Int), x)], by omega, by go_num, HE.out, ?_, ?_, HB4.out⟩
            · rw [itemsC_snoc, List.length_append]; exact HO4.out
            · rw [show tagsOf (l ++ [((t : Int), x)]) = tagsOf l ++ [(t : Int)] by simp [tagsOf]]; exact HS4.out
          case measure => simp [intOf]; omega
      · have HC := Lib.hid (fun W => step_err s p W hs hp he)
        have HE := Lib.hid (HR.out.err hlt he)
        generalize (stepG s.data.toList p).1 = b at *
        generalize (stepG s.data.toList p).2.1 = q at *
        have he' : ((b : Int) == 0) = false := by simp; omega
        go_wp2_with fail
        refine (HC.out _).mono ?_
        rintro e w1 ⟨rfl, hb1⟩
        have HB1 := Lib.hid (hbt HB.out hb1)
        clear hb1
        go_wp2
        go_ret3
        exact ⟨none, 0, by rw [HE.out]; rfl, by rw [HE.out]; exact tlvs_nil _ _, hbt HB1.out (below_al _ _)⟩
    · have HE := Lib.hid (HR.out.done (by omega))
      obtain ⟨A, cap, rfl, hT⟩ := tlvs_own HO.out rfl
      have HT := Lib.hid hT
      clear hT HO
      go_wp2
      go_ret3
      exact ⟨A, cap, by rw [HE.out]; rfl, by rw [HE.out]; exact HT.out, HB.out⟩

end Go.Proofs.YtmobillfeldcjaaDoor
