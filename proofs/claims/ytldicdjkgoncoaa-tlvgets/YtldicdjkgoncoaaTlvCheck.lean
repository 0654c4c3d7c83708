/-
  What wrong, Check and the document's Check answer: for every list, in every world.
-/
import Derived.Test.YtldicdjkgoncoaaTlvSeen
import Derived.Test.YtldicdjkgoncoaaTlvFind
namespace Go.Proofs.Ytldicdjkgoncoaa
open Go.RowKit Go.Maps

set_option maxHeartbeats 1600000 in
theorem tlvwrong_any (z : Int) (s : ByteArray) (m : Nat) (ts : List Int) (w : World) (hS : Seen w m ts) (hz : (Lit.int .i64 z).wf = true) (hs : s.size ≤ maxLen) :
    Calls Try.prog 18 #[.agg #[.int .i64 z, .string s], .map (some m)] w fun e w' => e = .returned (.int .i64 (bad1 ts (z, s) : Int)) ∧ Below w.heap.size w w' := by
  unfold maxLen at hs
  have hl := seen_look (hS.below (below_al w (.cells #[.int .i64 z, .string s] 42))) hz
  have HR := Lib.hid (right_any z)
  clear hS hz
  by_cases h1 : tagB z = true
  · rw [h1] at HR
    by_cases h2 : 65535 < s.size
    · rw [bad1_long (x := (z, s)) h1 h2]
      clear hl h1
      go_enter Try.func18, Try.ntmps18
      go_wp2_with fail
      refine (HR.out _).mono ?_
      rintro e w1 ⟨rfl, rfl⟩
      go_wp2
      go_ret
      exact ⟨rfl, below_al _ _⟩
    · by_cases h3 : z ∈ ts
      · rw [bad1_twice (x := (z, s)) h1 (Nat.le_of_not_lt h2) h3]
        rw [decide_eq_true h3] at hl
        clear h1 h3
        go_enter Try.func18, Try.ntmps18
        go_wp2_with fail
        refine (HR.out _).mono ?_
        rintro e w1 ⟨rfl, rfl⟩
        go_wp2
        go_ret
        exact ⟨rfl, below_al _ _⟩
      · rw [bad1_ok (x := (z, s)) h1 (Nat.le_of_not_lt h2) h3]
        rw [decide_eq_false h3] at hl
        clear h1 h3
        go_enter Try.func18, Try.ntmps18
        go_wp2_with fail
        refine (HR.out _).mono ?_
        rintro e w1 ⟨rfl, rfl⟩
        go_wp2
        go_ret
        exact ⟨rfl, below_al _ _⟩
  · have h1' : tagB z = false := by simpa using h1
    rw [bad1_tag (x := (z, s)) h1']
    rw [h1'] at HR
    clear hl h1 h1'
    go_enter Try.func18, Try.ntmps18
    go_wp2_with fail
    refine (HR.out _).mono ?_
    rintro e w1 ⟨rfl, rfl⟩
    go_wp2
    go_ret
    exact ⟨rfl, below_al _ _⟩

/-- What the numbers and texts of a list may be. -/
def Fine (l : List Item) : Prop := ∀ i, i < l.length → (Lit.int .i64 (itemAt l i).1).wf = true ∧ (itemAt l i).2.size ≤ maxLen

theorem tags_step {l : List Item} {k : Nat} (h : k < l.length) : tagsOf (l.take (k + 1)) = tagsOf (l.take k) ++ [(itemAt l k).1] := by rw [take_succ_item h]; simp [tagsOf]
theorem tags_len (l : List Item) (k : Nat) (h : k ≤ l.length) : (tagsOf (l.take k)).length = k := by simp [tagsOf]; omega

set_option maxRecDepth 100000 in
set_option maxHeartbeats 3200000 in
theorem tlvcheck_any (A : Option Addr) (cap : Nat) (l : List Item) (w : World) (hI : Tlvs w A l) (hn : l.length ≤ 5000000) (hf : Fine l) :
    Calls Try.prog 10 #[.slice A l.length cap] w fun e w' => e = .returned (.tuple #[.int .i64 ((chk l).1 : Int), .int .i64 ((chk l).2 : Int)]) ∧ Below w.heap.size w w' := by
  have hmm := @run_makeMap Try.prog
  have HI := Lib.hid hI
  have HF := Lib.hid hf
  clear hI hf
  generalize hlen : l.length = len at *
  have HLEN := Lib.hid hlen
  clear hlen
  go_enter Try.func10, Try.ntmps10
  go_wp2
  go_loopw [11] (fun i wr => ∃ k : Nat, k ≤ len ∧ i = .int .i64 (k : Int) ∧ (∀ j, j < k → badAt l j = 0) ∧ Seen wr w.heap.size (tagsOf (l.take k)) ∧ Below w.heap.size w wr) (fun i _ => len - (intOf i).toNat)
  case atStart => exact ⟨0, Nat.zero_le _, rfl, fun j hj => by omega, seen_new w, below_al _ _⟩
  case round =>
    obtain ⟨k, hk, rfl, hno, hseen, hb⟩ := hrel
    have HNO := Lib.hid hno
    have HB := Lib.hid hb
    have HS := Lib.hid hseen
    clear hno hb hseen
    by_cases hlt : k < len
    · have hkl : k < l.length := by have := HLEN.out; omega
      obtain ⟨a, rfl, hc, hd⟩ := HI.out.below HB.out k hkl
      have hfk := HF.out k hkl
      have HTS := Lib.hid (tags_step hkl)
      have HTL := Lib.hid (tags_len l k (by omega))
      have HBA : Hid (badAt l k = bad1 (tagsOf (l.take k)) (itemAt l k)) := rfl
      generalize hx : itemAt l k = x at *
      have HX := Lib.hid hx
      clear hx
      obtain ⟨z, s⟩ := x
      dsimp only at hc hd hfk
      have HW := Lib.hid (fun W h => tlvwrong_any z s w.heap.size (tagsOf (l.take k)) W h hfk.1 hfk.2)
      have HZ := Lib.hid hfk.1
      have hle := bad1_lt (tagsOf (l.take k)) (z, s)
      generalize hbad : bad1 (tagsOf (l.take k)) (z, s) = b at *
      have HBD := Lib.hid hbad
      clear hbad hfk hkl
      go_wp2_with fail
      refine (HW.out _ (HS.out.below (below_al _ _))).mono ?_
      rintro e w2 ⟨rfl, hb2⟩
      have HS2 := Lib.hid ((HS.out.below (below_al _ _)).below hb2)
      have HB2 := Lib.hid (hbt (hbt HB.out (below_al _ _)) hb2)
      obtain ⟨d0, d1, _, _⟩ := obj_cells (obj_below (heap_alloc_new wr (.cells #[.int .i64 z, .string s] 42)) hb2)
      clear hb2
      by_cases hb0 : b = 0
      · subst hb0
        obtain ⟨w3, hrun, hS3, hg3⟩ := seen_put HS2.out HZ.out (by have := HTL.out; omega)
        have HS3 := Lib.hid hS3
        have HB3 := Lib.hid (HB2.out.grown hg3 HB2.out.size (fun q hq => by cases hq; exact Nat.le_refl _))
        clear hS3 hg3
        go_wp2
        go_roundw
        case rel =>
          refine ⟨k + 1, by omega, by go_num, fun j hj => ?_, by rw [HTS.out]; exact HS3.out, HB3.out⟩
          rcases Nat.lt_or_ge j k with h | h
          · exact HNO.out j h
          · obtain rfl : j = k := by omega
            rw [HBA.out]
        case measure => simp [intOf]; omega
      · have hb1 : ((b : Int) == 0) = false := by simp; omega
        have HC := Lib.hid (chk_bad (l := l) (i := k) (by have := HLEN.out; omega) HNO.out (by rw [HBA.out]; exact hb0))
        go_wp2
        go_ret2
        exact ⟨by rw [HC.out, HBA.out]; rfl, HB2.out⟩
    · have HC := Lib.hid (chk_ok (l := l) (fun j hj => HNO.out j (by have := HLEN.out; omega)))
      go_wp2
      go_ret2
      exact ⟨by rw [HC.out]; rfl, HB.out⟩

set_option maxRecDepth 100000 in
set_option maxHeartbeats 3200000 in
theorem tlvrefCheck_any (A : Option Addr) (cap : Nat) (l : List Item) (w : World) (hI : Tlvs w A l) (hn : l.length ≤ 5000000) (hf : Fine l) :
    Calls Try.prog 11 #[.slice A l.length cap] w fun e w' => e = .returned (.tuple #[.int .i64 ((chk l).1 : Int), .int .i64 ((chk l).2 : Int)]) ∧ w = w' := by
  have HI := Lib.hid hI
  have HF := Lib.hid hf
  have HH := Lib.hid (fun (k : Nat) (t : Int) (h : k ≤ l.length) => tlvhas_any A cap l k t w hI h hn)
  clear hI hf
  generalize hlen : l.length = len at *
  have HLEN := Lib.hid hlen
  clear hlen
  go_enter Try.func11, Try.ntmps11
  go_wp2
  go_loop [4] (fun i => ∃ k : Nat, k ≤ len ∧ i = .int .i64 (k : Int) ∧ (∀ j, j < k → badAt l j = 0)) (fun i => len - (intOf i).toNat)
  case atStart => exact ⟨0, Nat.zero_le _, rfl, fun j hj => by omega⟩
  case round =>
    obtain ⟨k, hk, rfl, hno⟩ := hrel
    have HNO := Lib.hid hno
    clear hno
    by_cases hlt : k < len
    · have hkl : k < l.length := by have := HLEN.out; omega
      obtain ⟨a, rfl, hc, hd⟩ := HI.out k hkl
      have hfk := (HF.out k hkl).2
      unfold maxLen at hfk
      have HBA : Hid (badAt l k = bad1 (tagsOf (l.take k)) (itemAt l k)) := rfl
      have HH2 := Lib.hid (HH.out k (itemAt l k).1 (by omega))
      have HMB : Hid (hasB l k (itemAt l k).1 = decide ((itemAt l k).1 ∈ tagsOf (l.take k))) := rfl
      have HCB := Lib.hid (fun h => chk_bad (l := l) (i := k) hkl HNO.out h)
      generalize itemAt l k = x at *
      obtain ⟨z, s⟩ := x
      dsimp only at hc hd hfk HH2 HMB
      have HR := Lib.hid (refRight_any z)
      clear hkl
      by_cases h1 : tagB z = true
      · rw [h1] at HR
        by_cases h2 : 65535 < s.size
        · have HE := Lib.hid (HBA.out.trans (bad1_long (x := (z, s)) h1 h2))
          clear h1
          go_wp2_with fail
          refine (HR.out _).mono ?_
          rintro e w1 ⟨rfl, rfl⟩
          go_wp2
          go_ret2
          exact ⟨by rw [HCB.out (by rw [HE.out]; decide), HE.out]; rfl, rfl⟩
        · by_cases h3 : z ∈ tagsOf (l.take k)
          · have HE := Lib.hid (HBA.out.trans (bad1_twice (x := (z, s)) h1 (Nat.le_of_not_lt h2) h3))
            have HT : Hid (hasB l k z = true) := HMB.out.trans (decide_eq_true h3)
            rw [HT.out] at HH2
            clear h1 h3
            go_wp2_with fail
            refine (HR.out _).mono ?_
            rintro e w1 ⟨rfl, rfl⟩
            go_wp2_with fail
            refine HH2.out.mono ?_
            rintro e w1 ⟨rfl, rfl⟩
            go_wp2
            go_ret2
            exact ⟨by rw [HCB.out (by rw [HE.out]; decide), HE.out]; rfl, rfl⟩
          · have HE := Lib.hid (HBA.out.trans (bad1_ok (x := (z, s)) h1 (Nat.le_of_not_lt h2) h3))
            have HT : Hid (hasB l k z = false) := HMB.out.trans (decide_eq_false h3)
            rw [HT.out] at HH2
            clear h1 h3
            go_wp2_with fail
            refine (HR.out _).mono ?_
            rintro e w1 ⟨rfl, rfl⟩
            go_wp2_with fail
            refine HH2.out.mono ?_
            rintro e w1 ⟨rfl, rfl⟩
            go_wp2
            go_round
            case rel =>
              refine ⟨k + 1, by omega, by go_num, fun j hj => ?_⟩
              rcases Nat.lt_or_ge j k with h | h
              · exact HNO.out j h
              · obtain rfl : j = k := by omega
                exact HE.out
            case measure => simp [intOf]; omega
      · have h1' : tagB z = false := by simpa using h1
        have HE := Lib.hid (HBA.out.trans (bad1_tag (x := (z, s)) h1'))
        rw [h1'] at HR
        clear h1 h1'
        go_wp2_with fail
        refine (HR.out _).mono ?_
        rintro e w1 ⟨rfl, rfl⟩
        go_wp2
        go_ret2
        exact ⟨by rw [HCB.out (by rw [HE.out]; decide), HE.out]; rfl, rfl⟩
    · have HC := Lib.hid (chk_ok (l := l) (fun j hj => HNO.out j (by have := HLEN.out; omega)))
      go_wp2
      go_ret2
      exact ⟨by rw [HC.out]; rfl, rfl⟩

end Go.Proofs.Ytldicdjkgoncoaa
