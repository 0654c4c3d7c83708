/-
  What the program echoes: the first field of each number that is wanted, sorted: for every list of numbers and of fields that the machine can hold.
-/
import Derived.Test.YtnbllngljgmebaaDoorRejCmp
import Derived.Test.YtnbllngljgmebaaDoorRejWant
import Derived.Test.YtnbllngljgmebaaDoorSrt
import Derived.Test.YtnbllngljgmebaaDoorPackMsg
namespace Go.Proofs.YtnbllngljgmebaaDoor
open Go.RowKit

theorem isagg_val : ∀ w, (isAgg 63).run Tryd.prog w = .ok true w := Tryd.isAgg63
theorem size_val : ∀ w, (Go.sizeOf 63).run Tryd.prog w = .ok 2 w := Tryd.sizeOf63
/-- The library's sort, of a slice that the call owns: what it holds then is what it held, in order. -/
theorem sort_own {w : World} {base : Nat} {v : Value} {l : List Item} (h : w.ownsRow base 63 2 v l.length (itemsC l)) (hl : l.length < 4611686018427387904) :
    Calls Tryd.prog 57 #[v, .func (.func 58) #[] #[]] w fun e w' => e = .returned (.tuple #[]) ∧ ∃ A c s, v = .slice A l.length c ∧ s.Perm l ∧ s.Pairwise (fun x y => ¬ y.1 < x.1) ∧ Tlvs w' A s ∧ Below base w w' := by
  rcases h.2 with ⟨hv, h0⟩ | ⟨g, cap, cur, hv, hb, hg, hc, hn, _, ht⟩
  · have : l = [] := List.eq_nil_of_length_eq_zero h0
    subst this
    subst hv
    refine (Tryd.slices_SortFunc_none (α := Item) none 0 (.func (.func 58) #[] #[]) w).mono ?_
    rintro e w' ⟨rfl, rfl⟩
    exact ⟨rfl, none, 0, [], rfl, List.Perm.refl _, List.Pairwise.nil, tlvs_nil _ _, Below.refl _ _⟩
  · subst hv
    have hlt : g < w.heap.size := obj_lt hg
    have hH : Go.Sort.HoldsK encI 2 w g 0 l.toArray := holds_items (fun j u hu => by
      have := h.cellAt j (by have := (List.getElem?_eq_some_iff.1 hu).1; rw [itemsC_length] at this; omega)
      rw [this]; exact hu) (fun j => frozen_of_row w g j _ _ hg)
    have hcon := Tryd.slices_SortFunc 2 isagg_val size_val encI (fun _ => rfl) (fun x u hu => by simp [encI] at hu; rcases hu with rfl | rfl <;> rfl) cmpI swoI 58 #[] g 0 cap l.toArray w clo_enters (cmp_lays g 0 _ w) hH hlt (by simpa using hl)
    rw [show l.toArray.size = l.length by simp] at hcon
    refine hcon.mono ?_
    rintro e w' ⟨rfl, d', n, os, hp, hs, rfl⟩
    have hps := hp.1
    refine ⟨rfl, some ⟨g, 0, none⟩, cap, d'.toList, rfl, ?_, ?_, ?_, sort_below _ _ _ _ _ _ hb hlt⟩
    · have := perm_list (d := l.toArray) (d' := d') (by simpa using hp)
      simpa using this
    · exact sorted_list (by rw [hps]; simpa using hs)
    · exact items_holds (Go.Proofs.holdsK_sortWorldK_c encI 2 w g 0 l.toArray d' n os hH hlt hps)

set_option maxRecDepth 100000 in
set_option maxHeartbeats 12800000 in
theorem echoed_any (B : Option Addr) (cB : Nat) (E : List Int) (A : Option Addr) (cap : Nat) (l : List Item) (w : World) (hE : Ints w B E) (hI : Tlvs w A l) (hn : E.length ≤ 20000000000000) (hl : l.length ≤ 5864062014700) (hwe : ∀ z ∈ E, (Lit.int .i64 z).wf = true) (hwl : ∀ x ∈ l, (Lit.int .i64 x.1).wf = true) :
    Calls Tryd.prog 38 #[.slice B E.length cB, .slice A l.length cap] w fun e w' => ∃ A' c', e = .returned (.slice A' (echoL E l).length c') ∧ (echoL E l).length ≤ l.length ∧ Tlvs w' A' (echoL E l) ∧ Below w.heap.size w w' := by
  obtain ⟨i0, hi, hz0, hz1, hz2⟩ := info_parts Tryd.infoVal
  have hmm := @run_makeMap Tryd.prog
  have HE := Lib.hid hE
  have HI := Lib.hid hI
  have HWE := Lib.hid hwe
  have HWL := Lib.hid hwl
  have HPE := Lib.hid (fun s h h' => @pick_echo E l s h h')
  have HPL := Lib.hid (pick_len l (fun z => decide (z ∈ E)))
  have HST := Lib.hid (fun (k : Nat) (h : k < E.length) y => @want_step E k h y)
  generalize hne : E.length = ne at *
  generalize hnl : l.length = nl at *
  have HNE := Lib.hid hne
  have HNL := Lib.hid hnl
  clear hE hI hwe hwl hne hnl
  go_enter Tryd.func38, Tryd.ntmps38
  go_wp2
  go_loopw [14] (fun i wr => ∃ k : Nat, k ≤ ne ∧ i = .int .i64 (k : Int) ∧ Wanted wr w.heap.size k (fun y => decide (y ∈ E.take k)) ∧ Below w.heap.size w wr) (fun i _ => ne - (intOf i).toNat)
  case atStart => exact ⟨0, Nat.zero_le _, rfl, (wanted_new w).same (fun z => by simp), below_al _ _⟩
  case round =>
    obtain ⟨k, hk, rfl, hwant, hb⟩ := hrel
    have HB := Lib.hid hb
    have HW := Lib.hid hwant
    clear hb hwant
    by_cases hlt : k < ne
    · have hke : k < E.length := by have := HNE.out; omega
      obtain ⟨a, rfl, hc⟩ := HE.out.below HB.out k hke
      have hwz := HWE.out (E.getD k 0) (by rw [show E.getD k 0 = E[k] by simp [hke]]; exact List.getElem_mem hke)
      have hst := HST.out k (by omega)
      generalize E.getD k 0 = z at *
      obtain ⟨w3, hrun, hW3, hg3⟩ := wanted_put HW.out hwz true (by omega)
      have HW3 := Lib.hid (hW3.same hst)
      have HB3 := Lib.hid (HB.out.grown hg3 HB.out.size (fun q hq => by cases hq; exact Nat.le_refl _))
      clear hW3 hg3 hst hwz hke
      go_wp2
      go_roundw
      case rel => exact ⟨k + 1, by omega, by go_num, HW3.out, HB3.out⟩
      case measure => simp [intOf]; omega
    · have hke : k = ne := by omega
      subst hke
      have HW0 : Hid (Wanted wr w.heap.size k (fun z => decide (z ∈ E))) := HW.out.same (fun z => by rw [List.take_of_length_le (by have := HNE.out; omega)])
      clear HW hk hlt
      go_wp2
      go_loopw [8, 23] (fun y i wq => ∃ (q m : Nat) (p : Int → Bool) (f : List Item), q ≤ nl ∧ m ≤ k + q ∧ f.length ≤ q ∧ i = .int .i64 (q : Int) ∧ f ++ pickL p (l.drop q) = pickL (fun z => decide (z ∈ E)) l ∧ Wanted wq w.heap.size m p ∧ wq.ownsRow w.heap.size 63 2 y f.length (itemsC f) ∧ Below w.heap.size w wq) (fun _ i _ => nl - (intOf i).toNat)
      case atStart => exact ⟨0, k, _, [], Nat.zero_le _, Nat.le_refl _, Nat.le_refl _, rfl, rfl, HW0.out, World.ownsRow_nil _ _ _ _, HB.out⟩
      case round =>
        clear HW0 HB HST HWE HE
        obtain ⟨q, m, p, f, hq, hm, hf, rfl, hpick, hwant, hown, hb⟩ := hrel
        have HB := Lib.hid hb
        have HW := Lib.hid hwant
        have HO := Lib.hid hown
        have HP := Lib.hid hpick
        have HM := Lib.hid hwant.lt
        clear hb hwant hown hpick
        by_cases hlt : q < nl
        · have hql : q < l.length := by have := HNL.out; omega
          obtain ⟨a, n, s, rfl, hx, c0, c1⟩ := (HI.out.below HB.out).at_ hql
          have hwz := HWL.out (itemAt l q) (by rw [itemAt_get hql]; exact List.getElem_mem hql)
          have hd := drop_item hql
          rw [hx] at hwz hd
          have HWZ := Lib.hid hwz
          have HD := Lib.hid hd
          have HB1 := Lib.hid (hbt HB.out (below_al wr (.cells #[.int .i64 n, .string s] 63)))
          have HW1 := Lib.hid (HW.out.below (below_al wr (.cells #[.int .i64 n, .string s] 63)))
          have hlk := wanted_look HW1.out HWZ.out
          clear hx hql hwz hd
          cases hp : p n
          · have HQ := Lib.hid (@pick_miss p (n, s) (l.drop (q + 1)) hp)
            rw [hp] at hlk
            have HO1 := Lib.hid (HO.out.alloc (.cells #[.int .i64 n, .string s] 63))
            clear hp
            go_wp2
            go_roundw
            case rel => exact ⟨q + 1, m, p, f, by omega, by omega, by omega, by go_num, by rw [← HP.out, HD.out, HQ.out], HW1.out, HO1.out, HB1.out⟩
            case measure => simp [intOf]; omega
          · have HQ := Lib.hid (@pick_hit p (n, s) (l.drop (q + 1)) hp)
            rw [hp] at hlk
            have HSM : Hid (∀ z, (if z = n then false else p z) = (decide (z ≠ n) && p z)) := fun z => by
              by_cases h : z = n
              · rw [if_pos h]; simp [h]
              · rw [if_neg h]; simp [h]
            clear hp
            generalize hfl : f.length = fl at *
            have HFL := Lib.hid hfl
            clear hfl
            have HO2 := Lib.hid ((HO.out.alloc (.cells #[.int .i64 n, .string s] 63)).alloc (.cells #[.int .i64 n, .string s] 63))
            have HW2 := Lib.hid (HW1.out.below (below_al (wr.alloc (.cells #[.int .i64 n, .string s] 63)) (.cells #[.int .i64 n, .string s] 63)))
            have HX2 : Hid (((wr.alloc (.cells #[.int .i64 n, .string s] 63)).alloc (.cells #[.int .i64 n, .string s] 63)).heap[wr.heap.size]? = some (.cells #[.int .i64 n, .string s] 63)) := obj_below (heap_alloc_new _ _) (below_al _ _)
            go_wp2_with (at_builtin; refine wpList_append_lies _ rfl _ _ _ rfl w.heap.size 63 i0 _ 2 24 Tryd.underlying43 hi hz0 hz1 hz2 rfl (by omega) _ fl (itemsC f) rfl HO2.out ⟨wr.heap.size + 1, 0, none⟩ 1 1 (itemC (n, s)) rfl rfl (World.news_of_block (cs := #[.int .i64 n, .string s]) (t := 63) (fr := (0, 0)) (heap_al _ _ _ (by simp))) (by simp [itemC, Value.oneCell']) (by omega) (by unfold maxLen; omega) (by omega) (by have := HB1.out.size; simp at this; simp; omega) (wr.heap.size + 1 + 1) (by simp) ?_; intro g' cap' w4 hown4 hgrow4 hat4 hlt4; have hob : w4.heap[wr.heap.size]? = some (.cells #[.int .i64 n, .string s] 63) := (hgrow4.block _ (by simp; omega) (fun e => by have := (HO.out.lt _ e.symm).2; omega)).trans HX2.out; obtain ⟨d0, d1, _, _⟩ := obj_cells hob; obtain ⟨w5, hrun, hW5, hg5⟩ := wanted_put (HW2.out.kept hgrow4 (fun e => own_wanted HO2.out HW2.out e.symm)) HWZ.out false (by omega))
            have HW5 := Lib.hid (hW5.same HSM.out)
            have HO5 := Lib.hid (hown4.kept hg5 (Or.inr (own_wanted hown4 (HW2.out.kept hgrow4 (fun e => own_wanted HO2.out HW2.out e.symm)))))
            have HB4 := ((hbt HB1.out (below_al _ (.cells #[.int .i64 n, .string s] 63))).grown hgrow4 (by have := HB1.out.size; simp at this; simp; omega) (fun q hq => (HO2.out.lt q hq).1))
            have HB5 := Lib.hid (HB4.grown hg5 (by have := HB4.size; omega) (fun q hq => by cases hq; exact Nat.le_refl _))
            clear hW5 hg5 hown4 hgrow4 hat4 hlt4 hob HB4
            go_wp2
            go_roundw
            case rel => exact ⟨q + 1, m + 1, _, f ++ [(n, s)], by omega, by omega, by rw [List.length_append, HFL.out]; simp; omega, by go_num, by rw [← HP.out, HD.out, HQ.out, List.append_assoc]; rfl, HW5.out, by rw [itemsC_snoc, List.length_append, HFL.out]; exact HO5.out, HB5.out⟩
            case measure => simp [intOf]; omega
        · have he : l.drop q = [] := List.drop_eq_nil_of_le (by have := HNL.out; omega)
          have hfe : f = pickL (fun z => decide (z ∈ E)) l := by
            have := HP.out
            rw [he] at this
            simpa [pickL] using this
          have HFE := Lib.hid hfe
          have HSO := Lib.hid (sort_own HO.out (by omega))
          clear he hfe
          go_wp2_with fail
          refine HSO.out.mono ?_
          rintro e w5 ⟨rfl, A', c', s', rfl, hperm, hsort, ht, hb5⟩
          have HS := Lib.hid (HPE.out s' (by rw [← HFE.out]; exact hperm) hsort)
          have HSL := Lib.hid hperm.length_eq
          have HT := Lib.hid ht
          have HB5 := Lib.hid (HB.out.trans hb5)
          clear hperm hsort ht hb5
          go_wp2
          go_ret
          refine ⟨A', c', ?_, ?_, ?_, HB5.out⟩
          · rw [← HS.out, HSL.out]; rfl
          · rw [← HS.out, HSL.out, HFE.out]; exact HPL.out
          · rw [← HS.out]; exact HT.out

end Go.Proofs.YtnbllngljgmebaaDoor
