/-
  The law WireAdds: for every schema, message and value, in every world that holds the table of kinds.
-/
import Derived.Test.YtckapcafpnlnoaaDoorWirAwk
import Derived.Test.YtckapcafpnlnoaaDoorMsgRead
import Derived.Test.YtckapcafpnlnoaaDoorMsgIns
import Derived.Test.YtckapcafpnlnoaaDoorFldNext
namespace Go.Proofs.YtckapcafpnlnoaaDoor
open Go.RowKit

/-- A schema, a message and a value in the first three blocks that the law makes. -/
def WTri (w : World) (st v : Int) (A : Option Addr) (len cap : Nat) (m : ByteArray) (B : Option Addr) (n c : Nat) (no : Int) (t : ByteArray) (u : World) : Prop :=
  Below w.heap.size w u ∧ Box u w.heap.size st v A len cap ∧ MBox u (w.heap.size + 1) m B n c ∧ u.heap[w.heap.size + 2]? = some (.cells #[.int .i64 no, .string t] 51)
theorem WTri.below {w : World} {st v : Int} {A : Option Addr} {len cap : Nat} {m : ByteArray} {B : Option Addr} {n c : Nat} {no : Int} {t : ByteArray} {u u' : World} (h : WTri w st v A len cap m B n c no t u) (hb : Below u.heap.size u u') : WTri w st v A len cap m B n c no t u' :=
  ⟨hbt h.1 hb, h.2.1.below hb, h.2.2.1.below hb, obj_below h.2.2.2 hb⟩
theorem wtri_new (w : World) (st v : Int) (A : Option Addr) (len cap : Nat) (m : ByteArray) (B : Option Addr) (n c : Nat) (no : Int) (t : ByteArray) : WTri w st v A len cap m B n c no t (((w.alloc (.cells #[.int .i64 st, .int .i64 v, .slice A len cap] 30)).alloc (.cells #[.string m, .slice B n c] 33)).alloc (.cells #[.int .i64 no, .string t] 51)) :=
  ⟨hbt (hbt (below_al _ _) (below_al _ _)) (below_al _ _), ((box_new _ _ _ _ _ _).below (below_al _ _)).below (below_al _ _), obj_below (heap_al _ _ _ (by simp)) (below_al _ _), heap_al _ _ _ (by simp)⟩
theorem wwith_sizes {l : List Item} {no : Int} {t : ByteArray} (hf : ∀ x ∈ l, x.2.size ≤ maxLen) (ht : t.size ≤ maxLen) : ∀ x ∈ withL no t l, x.2.size ≤ maxLen := fun x hx => by
  rcases ins_mem hx with rfl | hx
  · exact ht
  · exact hf x (out_mem hx).1
/-- What is so where both messages are valid. -/
theorem wadds_good {st v : Int} {sl : List Sp} {m : ByteArray} {l : List Item} {no : Int} {t : ByteArray} (h1 : msgN st v sl m (outL no l) = (0, 0)) (h2 : msgN st v sl m (withL no t l) = (0, 0)) (hl : l.length ≤ 999) :
    ∃ k : Nat, st = (k : Int) ∧ (k = 1 ∨ k = 2) ∧ okV sl (no, t) ∧ (encS st v sl m (withL no t l)).size = (encS st v sl m (outL no l)).size + (⟨(cellL k sl (no, t)).toArray⟩ : ByteArray).size + moreN k no (outL no l) ∧ (encS st v sl m (withL no t l)).size ≤ 3000000 := by
  obtain ⟨k, rfl, hk⟩ := valid_style h1
  have hx : okV sl (no, t) := (valid_all h2).2 _ (by
    unfold withL insL
    simp)
  refine ⟨k, rfl, hk, hx, ?_, ?_⟩
  · rw [encS_yes h1, encS_yes h2, mk_size, mk_size, mk_size]
    exact enc_more (x := (no, t)) hx
  · rw [encS_yes h2, mk_size]
    have h3 := enc_len (st := k) (valid_all h2).1 (valid_all h2).2
    have h4 := with_length no t l
    show (encL k sl m (withL no t l)).length ≤ _
    omega

set_option maxRecDepth 100000 in
set_option maxHeartbeats 3200000 in
theorem wadds_long (st v : Int) (A : Option Addr) (len cap : Nat) (m : ByteArray) (B : Option Addr) (n c : Nat) (no : Int) (t : ByteArray) (w : World) (hK : Kinds w) (h : 200 < len) :
    Calls Tryd.prog 7 #[.agg #[.int .i64 st, .int .i64 v, .slice A len cap], .agg #[.string m, .slice B n c], .agg #[.int .i64 no, .string t]] w fun e w' => e = .returned (.bool true) ∧ Below w.heap.size w w' := by
  have tl : decide ((200 : Int) < (len : Int)) = true := by simp; omega
  have HT := Lib.hid (wtri_new w st v A len cap m B n c no t)
  have HK := Lib.hid (hK.below HT.out.1)
  clear h hK
  go_enter Tryd.func7, Tryd.ntmps7
  go_wp2_with fail
  generalize ((w.alloc (.cells #[.int .i64 st, .int .i64 v, .slice A len cap] 30)).alloc (.cells #[.string m, .slice B n c] 33)).alloc (.cells #[.int .i64 no, .string t] 51) = U at *
  refine (wawake_any _ HK.out).mono ?_
  rintro e w1 ⟨rfl, hb1⟩
  have HT1 := Lib.hid (HT.out.below hb1)
  have HK1 := Lib.hid (HK.out.below hb1)
  obtain ⟨b0, b1, b2⟩ := obj_cells3 HT1.out.2.1
  clear hb1
  go_wp2_with fail
  refine (wawake_any _ HK1.out).mono ?_
  rintro e w2 ⟨rfl, hb2⟩
  have HB2 := Lib.hid (hbt HT1.out.1 hb2)
  clear hb2 b0 b1 b2
  go_wp2
  go_ret
  exact ⟨rfl, HB2.out⟩
set_option maxRecDepth 100000 in
set_option maxHeartbeats 3200000 in
theorem wadds_great (st v : Int) (A : Option Addr) (len cap : Nat) (m : ByteArray) (B : Option Addr) (c : Nat) (l : List Item) (no : Int) (t : ByteArray) (w : World) (hK : Kinds w) (hL : Tlvs w B l) (hf : ∀ x ∈ l, x.2.size ≤ maxLen) (h : ¬ 200 < len) (hg : greatM m l = true) :
    Calls Tryd.prog 7 #[.agg #[.int .i64 st, .int .i64 v, .slice A len cap], .agg #[.string m, .slice B l.length c], .agg #[.int .i64 no, .string t]] w fun e w' => e = .returned (.bool true) ∧ Below w.heap.size w w' := by
  have tl : decide ((200 : Int) < (len : Int)) = false := by simp; omega
  have HT := Lib.hid (wtri_new w st v A len cap m B l.length c no t)
  have HK := Lib.hid (hK.below HT.out.1)
  have HL := Lib.hid (hL.below HT.out.1)
  have HG := Lib.hid (fun W hW => mgreat_any m B c l W hW hf)
  rw [hg] at HG
  clear h hK hL hf hg
  generalize l.length = n at *
  go_enter Tryd.func7, Tryd.ntmps7
  go_wp2_with fail
  generalize ((w.alloc (.cells #[.int .i64 st, .int .i64 v, .slice A len cap] 30)).alloc (.cells #[.string m, .slice B n c] 33)).alloc (.cells #[.int .i64 no, .string t] 51) = U at *
  refine (wawake_any _ HK.out).mono ?_
  rintro e w1 ⟨rfl, hb1⟩
  have HT1 := Lib.hid (HT.out.below hb1)
  have HK1 := Lib.hid (HK.out.below hb1)
  have HL1 := Lib.hid (HL.out.below hb1)
  obtain ⟨b0, b1, b2⟩ := obj_cells3 HT1.out.2.1
  obtain ⟨b3, b4, _, _⟩ := obj_cells HT1.out.2.2.1
  clear hb1
  go_wp2_with fail
  refine (HG.out _ HL1.out).mono ?_
  rintro e w2 ⟨rfl, hb2⟩
  have HB2 := Lib.hid (hbt HT1.out.1 hb2)
  have HK2 := Lib.hid (HK1.out.below hb2)
  clear hb2 b0 b1 b2 b3 b4
  go_wp2_with fail
  refine (wawake_any _ HK2.out).mono ?_
  rintro e w3 ⟨rfl, hb3⟩
  have HB3 := Lib.hid (hbt HB2.out hb3)
  clear hb3
  go_wp2
  go_ret
  exact ⟨rfl, HB3.out⟩
set_option maxRecDepth 100000 in
set_option maxHeartbeats 3200000 in
theorem wadds_text (st v : Int) (A : Option Addr) (len cap : Nat) (m : ByteArray) (B : Option Addr) (c : Nat) (l : List Item) (no : Int) (t : ByteArray) (w : World) (hK : Kinds w) (hL : Tlvs w B l) (hf : ∀ x ∈ l, x.2.size ≤ maxLen) (h : ¬ 200 < len) (hg : greatM m l = false) (hh : 1000 < t.size) :
    Calls Tryd.prog 7 #[.agg #[.int .i64 st, .int .i64 v, .slice A len cap], .agg #[.string m, .slice B l.length c], .agg #[.int .i64 no, .string t]] w fun e w' => e = .returned (.bool true) ∧ Below w.heap.size w w' := by
  have tl : decide ((200 : Int) < (len : Int)) = false := by simp; omega
  have tt : decide ((1000 : Int) < (t.size : Int)) = true := by simp; omega
  have HT := Lib.hid (wtri_new w st v A len cap m B l.length c no t)
  have HK := Lib.hid (hK.below HT.out.1)
  have HL := Lib.hid (hL.below HT.out.1)
  have HG := Lib.hid (fun W hW => mgreat_any m B c l W hW hf)
  rw [hg] at HG
  clear h hK hL hf hg hh
  generalize l.length = n at *
  go_enter Tryd.func7, Tryd.ntmps7
  go_wp2_with fail
  generalize ((w.alloc (.cells #[.int .i64 st, .int .i64 v, .slice A len cap] 30)).alloc (.cells #[.string m, .slice B n c] 33)).alloc (.cells #[.int .i64 no, .string t] 51) = U at *
  refine (wawake_any _ HK.out).mono ?_
  rintro e w1 ⟨rfl, hb1⟩
  have HT1 := Lib.hid (HT.out.below hb1)
  have HK1 := Lib.hid (HK.out.below hb1)
  have HL1 := Lib.hid (HL.out.below hb1)
  obtain ⟨b0, b1, b2⟩ := obj_cells3 HT1.out.2.1
  obtain ⟨b3, b4, _, _⟩ := obj_cells HT1.out.2.2.1
  clear hb1
  go_wp2_with fail
  refine (HG.out _ HL1.out).mono ?_
  rintro e w2 ⟨rfl, hb2⟩
  have HT2 := Lib.hid (HT1.out.below hb2)
  have HK2 := Lib.hid (HK1.out.below hb2)
  obtain ⟨b5, b6, _, _⟩ := obj_cells HT2.out.2.2.2
  clear hb2 b0 b1 b2 b3 b4
  go_wp2_with fail
  refine (wawake_any _ HK2.out).mono ?_
  rintro e w3 ⟨rfl, hb3⟩
  have HB3 := Lib.hid (hbt HT2.out.1 hb3)
  clear hb3 b5 b6
  go_wp2
  go_ret
  exact ⟨rfl, HB3.out⟩
set_option maxRecDepth 100000 in
set_option maxHeartbeats 25600000 in
theorem wadds_main (st v : Int) (A : Option Addr) (cap : Nat) (sl : List Sp) (m : ByteArray) (B : Option Addr) (c : Nat) (l : List Item) (no : Int) (t : ByteArray) (w : World) (hK : Kinds w) (hI : Spl w A sl) (hL : Tlvs w B l) (hf : ∀ x ∈ l, x.2.size ≤ maxLen) (ht : t.size ≤ maxLen) (h : ¬ 200 < sl.length) (hg : greatM m l = false) (hh : ¬ 1000 < t.size) :
    Calls Tryd.prog 7 #[.agg #[.int .i64 st, .int .i64 v, .slice A sl.length cap], .agg #[.string m, .slice B l.length c], .agg #[.int .i64 no, .string t]] w fun e w' => e = .returned (.bool true) ∧ Below w.heap.size w w' := by
  have tl : decide ((200 : Int) < (sl.length : Int)) = false := by simp; omega
  have tt : decide ((1000 : Int) < (t.size : Int)) = false := by simp; omega
  have hn : sl.length ≤ 1000 := by omega
  have hl : l.length ≤ 200 := (great_in hg).2.1
  have hwl := with_length no t l
  have hol := out_length no l
  have HT := Lib.hid (wtri_new w st v A sl.length cap m B l.length c no t)
  have HK := Lib.hid (hK.below HT.out.1)
  have HL := Lib.hid (hL.below HT.out.1)
  have HI := Lib.hid (hI.below HT.out.1)
  have HG := Lib.hid (fun W hW => mgreat_any m B c l W hW hf)
  rw [hg] at HG
  have HWO : Hid (∀ W, Tlvs W B l → Calls Tryd.prog 22 #[.agg #[.string m, .slice B l.length c], .int .i64 no] W fun e w' => ∃ x, e = .returned x ∧ ∃ A' c', x = .agg #[.string m, .slice A' (outL no l).length c'] ∧ Tlvs w' A' (outL no l) ∧ Below W.heap.size W w') := fun W hW => (mwithout_any m B c l no W hW (by omega)).mono fun e w' ⟨A', c', he, ht, hb⟩ => ⟨_, he, A', c', rfl, ht, hb⟩
  have HWI : Hid (∀ W, Tlvs W B l → Calls Tryd.prog 23 #[.agg #[.string m, .slice B l.length c], .int .i64 no, .string t] W fun e w' => ∃ x, e = .returned x ∧ ∃ A' c', x = .agg #[.string m, .slice A' (withL no t l).length c'] ∧ Tlvs w' A' (withL no t l) ∧ Below W.heap.size W w') := fun W hW => (mwith_any m B c l no t W hW (by omega)).mono fun e w' ⟨A', c', he, ht, hb⟩ => ⟨_, he, A', c', rfl, ht, hb⟩
  have HC1 := Lib.hid (fun B' d' W h0 h1 h2 => wenc_any st v A cap sl m B' d' (outL no l) W h0 h1 h2 hn (by omega) (fun x hx => hf x (out_mem hx).1))
  have HC2 := Lib.hid (fun B' d' W h0 h1 h2 => wenc_any st v A cap sl m B' d' (withL no t l) W h0 h1 h2 hn (by omega) (wwith_sizes hf ht))
  have HS := Lib.hid (fun B' d' W h1 => mset_any m B' d' (outL no l) W h1 (by omega))
  have HN := Lib.hid (fun W => next_any (ofH (tagsOf (outL no l))) (ofL (tagsOf (outL no l))) 64 W (of_lt _).1 (of_lt _).2 (by omega))
  have HF := Lib.hid (fun W hW => sfind_any st v A cap sl no W hW hn)
  have hnx := next_64 (h := ofH (tagsOf (outL no l))) (of_lt (tagsOf (outL no l))).2
  have HGD : Hid ((msgN st v sl m (outL no l)).1 = 0 → (msgN st v sl m (withL no t l)).1 = 0 → (msgN st v sl m (outL no l)).2 = 0 ∧ (msgN st v sl m (withL no t l)).2 = 0 ∧
      ∃ (k : Nat) (cs : ByteArray) (mo : Nat), st = (k : Int) ∧ (k = 1 ∨ k = 2) ∧ (∀ W, Kinds W → Calls Tryd.prog 24 #[.int .i64 (k : Int), .agg #[.int .i64 (fndP no sl).1.1, .int .i64 (fndP no sl).1.2.1, .int .i64 (fndP no sl).1.2.2.1, .int .i64 (fndP no sl).1.2.2.2.1, .int .i64 (fndP no sl).1.2.2.2.2], .string t] W fun e w' => e = .returned (.tuple #[.string cs, .int .i64 0]) ∧ Below W.heap.size W w') ∧
        (encS st v sl m (withL no t l)).size = (encS st v sl m (outL no l)).size + cs.size + mo ∧ (encS st v sl m (withL no t l)).size ≤ 3000000 ∧
        ((no ≤ 64 ∧ mo = 0) ∨ (64 < no ∧ nextN (ofH (tagsOf (outL no l))) (ofL (tagsOf (outL no l))) 64 ≠ 0 ∧ mo = 0) ∨ (64 < no ∧ nextN (ofH (tagsOf (outL no l))) (ofL (tagsOf (outL no l))) 64 = 0 ∧ ((k = 1 ∧ mo = 16) ∨ (k = 2 ∧ mo = 8))))) := fun e1 e2 => by
    have g1 := wmsgN_first e1
    have g2 := wmsgN_first e2
    obtain ⟨k, hst, hk, ho, hs, hb⟩ := wadds_good g1 g2 (by omega)
    refine ⟨by rw [g1], by rw [g2], k, _, _, hst, hk, fun W hW => cput_ok k _ _ _ _ _ t W hW hk ho.2, hs, hb, ?_⟩
    unfold moreN
    by_cases hno : 64 < no
    · by_cases h0 : ofL (tagsOf (outL no l)) = 0
      · refine .inr (.inr ⟨hno, hnx.2 h0, ?_⟩)
        rw [if_pos ⟨hno, h0⟩]
        unfold bwid
        rcases hk with rfl | rfl
        · exact .inl ⟨rfl, rfl⟩
        · exact .inr ⟨rfl, rfl⟩
      · exact .inr (.inl ⟨hno, fun e => h0 (hnx.1 e), if_neg fun e => h0 e.2⟩)
    · exact .inl ⟨by omega, if_neg fun e => hno e.1⟩
  have HZ : Hid ((msgN st v sl m (outL no l)).1 = 0 → (msgN st v sl m (outL no l)).2 = 0) := fun e => by rw [wmsgN_first e]
  clear h hK hI hL hf hg ht hh hl hn hwl hol hnx
  unfold setV at HS HN
  generalize nextN (ofH (tagsOf (outL no l))) (ofL (tagsOf (outL no l))) 64 = nx at *
  generalize (ofH (tagsOf (outL no l))) = sh at *
  generalize (ofL (tagsOf (outL no l))) = so at *
  generalize encS st v sl m (outL no l) = xa at *
  generalize encS st v sl m (withL no t l) = xb at *
  generalize (msgN st v sl m (outL no l)).1 = z1 at *
  generalize (msgN st v sl m (outL no l)).2 = z1' at *
  generalize (msgN st v sl m (withL no t l)).1 = z2 at *
  generalize (msgN st v sl m (withL no t l)).2 = z2' at *
  generalize outL no l = ol at *
  generalize withL no t l = wl at *
  generalize ol.length = on at *
  generalize wl.length = wn at *
  generalize fndP no sl = R at *
  obtain ⟨⟨n', c', f', lo', hi'⟩, ok⟩ := R
  have HF1 : Hid (∀ W, Spl W A sl → Calls Tryd.prog 19 #[.agg #[.int .i64 st, .int .i64 v, .slice A sl.length cap], .int .i64 no] W fun e w' => e = .returned (.tuple #[.agg #[.int .i64 n', .int .i64 c', .int .i64 f', .int .i64 lo', .int .i64 hi'], .bool ok]) ∧ Below W.heap.size W w') := HF.out
  dsimp only at HGD
  clear HF
  generalize sl.length = len at *
  generalize l.length = n at *
  go_enter Tryd.func7, Tryd.ntmps7
  go_wp2_with fail
  generalize ((w.alloc (.cells #[.int .i64 st, .int .i64 v, .slice A len cap] 30)).alloc (.cells #[.string m, .slice B n c] 33)).alloc (.cells #[.int .i64 no, .string t] 51) = U at *
  refine (wawake_any _ HK.out).mono ?_
  rintro e x1 ⟨rfl, hb1⟩
  have HT1 := Lib.hid (HT.out.below hb1)
  have HK1 := Lib.hid (HK.out.below hb1)
  have HL1 := Lib.hid (HL.out.below hb1)
  have HI1 := Lib.hid (HI.out.below hb1)
  obtain ⟨b0, b1, b2⟩ := obj_cells3 HT1.out.2.1
  obtain ⟨b3, b4, _, _⟩ := obj_cells HT1.out.2.2.1
  clear hb1 HT HK HL HI
  go_wp2_with fail
  refine (HG.out _ HL1.out).mono ?_
  rintro e x2 ⟨rfl, hb2⟩
  have HT2 := Lib.hid (HT1.out.below hb2)
  have HK2 := Lib.hid (HK1.out.below hb2)
  have HL2 := Lib.hid (HL1.out.below hb2)
  have HI2 := Lib.hid (HI1.out.below hb2)
  clear hb2 b0 b1 b2 b3 b4 HT1 HK1 HL1 HI1
  obtain ⟨b5, b6, _, _⟩ := obj_cells HT2.out.2.2.2
  go_upto_region 3 with fail
  clear b5 b6
  go_cut [7, 8] (fun s7 s8 wx => ∃ p : Nat, s7 = .string xa ∧ s8 = .pointer (some ⟨p, 0, none⟩) ∧ wx.heap[p]? = some (.cells #[.int .i64 z1, .int .i64 z1'] 37) ∧ Below x2.heap.size x2 wx)
  case first =>
    refine wp_region_noPanic ?_
    refine wp_region_held_drew (S := (fun u => Below x2.heap.size x2 u)) (by kernel_rfl) ((Below.refl _ _).drew) (fun hS => ?_)
    refine give_val (i := 0) (v := ?_) rfl (by kernel_rfl) (by kernel_rfl) (by kernel_rfl) (fun _ _ _ h => h) (by rfl) (fun u hu => ?_) hS ?_
    rotate_left
    · ((have hT := HT2.out.below hu; obtain ⟨b0, b1, b2⟩ := obj_cells3 hT.2.1; obtain ⟨b3, b4, _, _⟩ := obj_cells hT.2.2.1; obtain ⟨b5, b6, _, _⟩ := obj_cells hT.2.2.2; clear hT); go_simp; try (with_reducible rfl))
    try simp only [Act.put, List.setIfInBounds_toArray, List.set_cons_zero, List.set_cons_succ]
    refine give_val (i := 1) (v := ?_) rfl (by kernel_rfl) (by kernel_rfl) (by kernel_rfl) (fun _ _ _ h => h) (by rfl) (fun u hu => ?_) hS ?_
    rotate_left
    · ((have hT := HT2.out.below hu; obtain ⟨b0, b1, b2⟩ := obj_cells3 hT.2.1; obtain ⟨b3, b4, _, _⟩ := obj_cells hT.2.2.1; obtain ⟨b5, b6, _, _⟩ := obj_cells hT.2.2.2; clear hT); go_simp; try (with_reducible rfl))
    try simp only [Act.put, List.setIfInBounds_toArray, List.set_cons_zero, List.set_cons_succ]
    refine give_val (i := 2) (v := ?_) rfl (by kernel_rfl) (by kernel_rfl) (by kernel_rfl) (fun _ _ _ h => h) (by rfl) (fun u hu => ?_) hS ?_
    rotate_left
    · ((have hT := HT2.out.below hu; obtain ⟨b0, b1, b2⟩ := obj_cells3 hT.2.1; obtain ⟨b3, b4, _, _⟩ := obj_cells hT.2.2.1; obtain ⟨b5, b6, _, _⟩ := obj_cells hT.2.2.2; clear hT); go_simp; try (with_reducible rfl))
    try simp only [Act.put, List.setIfInBounds_toArray, List.set_cons_zero, List.set_cons_succ]
    refine give_val (i := 3) (v := ?_) rfl (by kernel_rfl) (by kernel_rfl) (by kernel_rfl) (fun _ _ _ h => h) (by rfl) (fun u hu => ?_) hS ?_
    rotate_left
    · ((have hT := HT2.out.below hu; obtain ⟨b0, b1, b2⟩ := obj_cells3 hT.2.1; obtain ⟨b3, b4, _, _⟩ := obj_cells hT.2.2.1; obtain ⟨b5, b6, _, _⟩ := obj_cells hT.2.2.2; clear hT); go_simp; try (with_reducible rfl))
    try simp only [Act.put, List.setIfInBounds_toArray, List.set_cons_zero, List.set_cons_succ]
    refine wpAnyH_ready (rs := [4, 9]) (by kernel_rfl) (by simp) (arm_some (i := 4) 22 #[.agg #[.string m, .slice B n c], .int .i64 no] rfl (by rfl) (HWO.out _ (HL2.out.below hS)) ?_ ?_ (arm_alloc (i := 9) (.cells #[.int .i64 0, .int .i64 0] 37) rfl (by rfl) ?_ ?_ AllReadyH.nil))
    · (go_simp; try (with_reducible rfl))
    · intro v4 u' hT
      obtain ⟨A4, c4, rfl, ht4, hb⟩ := hT
      have hS' : (fun u => Below x2.heap.size x2 u) u' := hbt hS hb
      refine ⟨hS', ?_⟩
      clear hS hb
      have hS := hS'; clear hS'
      rename World => u
      try simp only [Act.put, List.setIfInBounds_toArray, List.set_cons_zero, List.set_cons_succ]
      refine wpAnyH_ready (rs := [5, 9]) (by kernel_rfl) (by simp) (arm_call (i := 5) 13 #[.agg #[.int .i64 st, .int .i64 v, .slice A len cap], .agg #[.string m, .slice A4 on c4]] rfl (by rfl) (HC1.out A4 c4 _ (HK2.out.below hS) (HI2.out.below hS) ht4) ?_ ?_ (arm_alloc (i := 9) (.cells #[.int .i64 0, .int .i64 0] 37) rfl (by rfl) ?_ ?_ AllReadyH.nil))
      · (go_simp; try (with_reducible rfl))
      · intro u' hb
        have hS' : (fun u => Below x2.heap.size x2 u) u' := hbt hS hb
        refine ⟨hS', ?_⟩
        replace ht4 := ht4.below hb
        clear hS hb
        have hS := hS'; clear hS'
        rename World => u
        try simp only [Act.put, List.setIfInBounds_toArray, List.set_cons_zero, List.set_cons_succ]
        refine give_val (i := 6) (v := ?_) rfl (by kernel_rfl) (by kernel_rfl) (by kernel_rfl) (fun _ _ _ h => h) (by rfl) (fun u hu => ?_) hS ?_
        rotate_left
        · ((have hT := HT2.out.below hu; obtain ⟨b0, b1, b2⟩ := obj_cells3 hT.2.1; obtain ⟨b3, b4, _, _⟩ := obj_cells hT.2.2.1; obtain ⟨b5, b6, _, _⟩ := obj_cells hT.2.2.2; clear hT); go_simp; try (with_reducible rfl))
        try simp only [Act.put, List.setIfInBounds_toArray, List.set_cons_zero, List.set_cons_succ]
        refine give_val (i := 7) (v := ?_) rfl (by kernel_rfl) (by kernel_rfl) (by kernel_rfl) (fun _ _ _ h => h) (by rfl) (fun u hu => ?_) hS ?_
        rotate_left
        · ((have hT := HT2.out.below hu; obtain ⟨b0, b1, b2⟩ := obj_cells3 hT.2.1; obtain ⟨b3, b4, _, _⟩ := obj_cells hT.2.2.1; obtain ⟨b5, b6, _, _⟩ := obj_cells hT.2.2.2; clear hT); go_simp; try (with_reducible rfl))
        try simp only [Act.put, List.setIfInBounds_toArray, List.set_cons_zero, List.set_cons_succ]
        refine give_val (i := 8) (v := ?_) rfl (by kernel_rfl) (by kernel_rfl) (by kernel_rfl) (fun _ _ _ h => h) (by rfl) (fun u hu => ?_) hS ?_
        rotate_left
        · ((have hT := HT2.out.below hu; obtain ⟨b0, b1, b2⟩ := obj_cells3 hT.2.1; obtain ⟨b3, b4, _, _⟩ := obj_cells hT.2.2.1; obtain ⟨b5, b6, _, _⟩ := obj_cells hT.2.2.2; clear hT); go_simp; try (with_reducible rfl))
        try simp only [Act.put, List.setIfInBounds_toArray, List.set_cons_zero, List.set_cons_succ]
        refine wpAnyH_ready (rs := [9]) (by kernel_rfl) (by simp) (arm_alloc (i := 9) (.cells #[.int .i64 0, .int .i64 0] 37) rfl (by rfl) ?_ ?_ AllReadyH.nil)
        · (go_simp; try (with_reducible rfl))
        · intro p9 u' hb ho9 hp9
          replace hp9 := Nat.le_trans (hS.size) hp9
          have hS' : (fun u => Below x2.heap.size x2 u) u' := hbt hS hb
          refine ⟨hS', ?_⟩
          replace ht4 := ht4.below hb
          clear hS hb
          have hS := hS'; clear hS'
          rename World => u
          try simp only [Act.put, List.setIfInBounds_toArray, List.set_cons_zero, List.set_cons_succ]
          obtain ⟨d0, d1, f0, f1⟩ := obj_cells ho9
          have hr9 := obj_set2 ho9 (.int .i64 z1) (.int .i64 z1')
          have hS4 : Below x2.heap.size x2 _ := below_set2 hS hp9 (.int .i64 z1) (.int .i64 z1')
          refine give_val (i := 10) (v := ?_) rfl (by kernel_rfl) (by kernel_rfl) (by kernel_rfl) (fun _ _ _ h => h) (by rfl) (fun u hu => ?_) hS ?_
          rotate_left
          · ((have hT := HT2.out.below hu; obtain ⟨b0, b1, b2⟩ := obj_cells3 hT.2.1; obtain ⟨b3, b4, _, _⟩ := obj_cells hT.2.2.1; obtain ⟨b5, b6, _, _⟩ := obj_cells hT.2.2.2; clear hT); go_simp; try (with_reducible rfl))
          try simp only [Act.put, List.setIfInBounds_toArray, List.set_cons_zero, List.set_cons_succ]
          refine only (i := 11) rfl (by kernel_rfl) (by rfl) (fun K hK => ?_)
          go_simp
          refine hK.out _ _ hS4 ?_
          clear hK
          try simp only [Act.put, List.setIfInBounds_toArray, List.set_cons_zero, List.set_cons_succ]
          refine wpAnyH_done (by kernel_rfl) (NoPanic.normal ?_) _
          go_wp2_with fail
          go_meet
          exact ⟨p9, rfl, rfl, hr9, hS4⟩
      · (go_simp; try (with_reducible rfl))
      · intro p9 u' hb ho9 hp9
        replace hp9 := Nat.le_trans (hS.size) hp9
        have hS' : (fun u => Below x2.heap.size x2 u) u' := hbt hS hb
        refine ⟨hS', ?_⟩
        replace ht4 := ht4.below hb
        clear hS hb
        have hS := hS'; clear hS'
        rename World => u
        try simp only [Act.put, List.setIfInBounds_toArray, List.set_cons_zero, List.set_cons_succ]
        refine wpAnyH_ready (rs := [5]) (by kernel_rfl) (by simp) (arm_call (i := 5) 13 #[.agg #[.int .i64 st, .int .i64 v, .slice A len cap], .agg #[.string m, .slice A4 on c4]] rfl (by rfl) (HC1.out A4 c4 _ (HK2.out.below hS) (HI2.out.below hS) ht4) ?_ ?_ AllReadyH.nil)
        · (go_simp; try (with_reducible rfl))
        · intro u' hb
          have hS' : (fun u => Below x2.heap.size x2 u) u' := hbt hS hb
          refine ⟨hS', ?_⟩
          replace ho9 := obj_below ho9 hb
          replace ht4 := ht4.below hb
          clear hS hb
          have hS := hS'; clear hS'
          rename World => u
          try simp only [Act.put, List.setIfInBounds_toArray, List.set_cons_zero, List.set_cons_succ]
          refine give_val (i := 6) (v := ?_) rfl (by kernel_rfl) (by kernel_rfl) (by kernel_rfl) (fun _ _ _ h => h) (by rfl) (fun u hu => ?_) hS ?_
          rotate_left
          · ((have hT := HT2.out.below hu; obtain ⟨b0, b1, b2⟩ := obj_cells3 hT.2.1; obtain ⟨b3, b4, _, _⟩ := obj_cells hT.2.2.1; obtain ⟨b5, b6, _, _⟩ := obj_cells hT.2.2.2; clear hT); go_simp; try (with_reducible rfl))
          try simp only [Act.put, List.setIfInBounds_toArray, List.set_cons_zero, List.set_cons_succ]
          refine give_val (i := 7) (v := ?_) rfl (by kernel_rfl) (by kernel_rfl) (by kernel_rfl) (fun _ _ _ h => h) (by rfl) (fun u hu => ?_) hS ?_
          rotate_left
          · ((have hT := HT2.out.below hu; obtain ⟨b0, b1, b2⟩ := obj_cells3 hT.2.1; obtain ⟨b3, b4, _, _⟩ := obj_cells hT.2.2.1; obtain ⟨b5, b6, _, _⟩ := obj_cells hT.2.2.2; clear hT); go_simp; try (with_reducible rfl))
          try simp only [Act.put, List.setIfInBounds_toArray, List.set_cons_zero, List.set_cons_succ]
          refine give_val (i := 8) (v := ?_) rfl (by kernel_rfl) (by kernel_rfl) (by kernel_rfl) (fun _ _ _ h => h) (by rfl) (fun u hu => ?_) hS ?_
          rotate_left
          · ((have hT := HT2.out.below hu; obtain ⟨b0, b1, b2⟩ := obj_cells3 hT.2.1; obtain ⟨b3, b4, _, _⟩ := obj_cells hT.2.2.1; obtain ⟨b5, b6, _, _⟩ := obj_cells hT.2.2.2; clear hT); go_simp; try (with_reducible rfl))
          try simp only [Act.put, List.setIfInBounds_toArray, List.set_cons_zero, List.set_cons_succ]
          obtain ⟨d0, d1, f0, f1⟩ := obj_cells ho9
          have hr9 := obj_set2 ho9 (.int .i64 z1) (.int .i64 z1')
          have hS4 : Below x2.heap.size x2 _ := below_set2 hS hp9 (.int .i64 z1) (.int .i64 z1')
          refine give_val (i := 10) (v := ?_) rfl (by kernel_rfl) (by kernel_rfl) (by kernel_rfl) (fun _ _ _ h => h) (by rfl) (fun u hu => ?_) hS ?_
          rotate_left
          · ((have hT := HT2.out.below hu; obtain ⟨b0, b1, b2⟩ := obj_cells3 hT.2.1; obtain ⟨b3, b4, _, _⟩ := obj_cells hT.2.2.1; obtain ⟨b5, b6, _, _⟩ := obj_cells hT.2.2.2; clear hT); go_simp; try (with_reducible rfl))
          try simp only [Act.put, List.setIfInBounds_toArray, List.set_cons_zero, List.set_cons_succ]
          refine only (i := 11) rfl (by kernel_rfl) (by rfl) (fun K hK => ?_)
          go_simp
          refine hK.out _ _ hS4 ?_
          clear hK
          try simp only [Act.put, List.setIfInBounds_toArray, List.set_cons_zero, List.set_cons_succ]
          refine wpAnyH_done (by kernel_rfl) (NoPanic.normal ?_) _
          go_wp2_with fail
          go_meet
          exact ⟨p9, rfl, rfl, hr9, hS4⟩
    · (go_simp; try (with_reducible rfl))
    · intro p9 u' hb ho9 hp9
      replace hp9 := Nat.le_trans (hS.size) hp9
      have hS' : (fun u => Below x2.heap.size x2 u) u' := hbt hS hb
      refine ⟨hS', ?_⟩
      clear hS hb
      have hS := hS'; clear hS'
      rename World => u
      try simp only [Act.put, List.setIfInBounds_toArray, List.set_cons_zero, List.set_cons_succ]
      refine wpAnyH_ready (rs := [4]) (by kernel_rfl) (by simp) (arm_some (i := 4) 22 #[.agg #[.string m, .slice B n c], .int .i64 no] rfl (by rfl) (HWO.out _ (HL2.out.below hS)) ?_ ?_ AllReadyH.nil)
      · (go_simp; try (with_reducible rfl))
      · intro v4 u' hT
        obtain ⟨A4, c4, rfl, ht4, hb⟩ := hT
        have hS' : (fun u => Below x2.heap.size x2 u) u' := hbt hS hb
        refine ⟨hS', ?_⟩
        replace ho9 := obj_below ho9 hb
        clear hS hb
        have hS := hS'; clear hS'
        rename World => u
        try simp only [Act.put, List.setIfInBounds_toArray, List.set_cons_zero, List.set_cons_succ]
        refine wpAnyH_ready (rs := [5]) (by kernel_rfl) (by simp) (arm_call (i := 5) 13 #[.agg #[.int .i64 st, .int .i64 v, .slice A len cap], .agg #[.string m, .slice A4 on c4]] rfl (by rfl) (HC1.out A4 c4 _ (HK2.out.below hS) (HI2.out.below hS) ht4) ?_ ?_ AllReadyH.nil)
        · (go_simp; try (with_reducible rfl))
        · intro u' hb
          have hS' : (fun u => Below x2.heap.size x2 u) u' := hbt hS hb
          refine ⟨hS', ?_⟩
          replace ho9 := obj_below ho9 hb
          replace ht4 := ht4.below hb
          clear hS hb
          have hS := hS'; clear hS'
          rename World => u
          try simp only [Act.put, List.setIfInBounds_toArray, List.set_cons_zero, List.set_cons_succ]
          refine give_val (i := 6) (v := ?_) rfl (by kernel_rfl) (by kernel_rfl) (by kernel_rfl) (fun _ _ _ h => h) (by rfl) (fun u hu => ?_) hS ?_
          rotate_left
          · ((have hT := HT2.out.below hu; obtain ⟨b0, b1, b2⟩ := obj_cells3 hT.2.1; obtain ⟨b3, b4, _, _⟩ := obj_cells hT.2.2.1; obtain ⟨b5, b6, _, _⟩ := obj_cells hT.2.2.2; clear hT); go_simp; try (with_reducible rfl))
          try simp only [Act.put, List.setIfInBounds_toArray, List.set_cons_zero, List.set_cons_succ]
          refine give_val (i := 7) (v := ?_) rfl (by kernel_rfl) (by kernel_rfl) (by kernel_rfl) (fun _ _ _ h => h) (by rfl) (fun u hu => ?_) hS ?_
          rotate_left
          · ((have hT := HT2.out.below hu; obtain ⟨b0, b1, b2⟩ := obj_cells3 hT.2.1; obtain ⟨b3, b4, _, _⟩ := obj_cells hT.2.2.1; obtain ⟨b5, b6, _, _⟩ := obj_cells hT.2.2.2; clear hT); go_simp; try (with_reducible rfl))
          try simp only [Act.put, List.setIfInBounds_toArray, List.set_cons_zero, List.set_cons_succ]
          refine give_val (i := 8) (v := ?_) rfl (by kernel_rfl) (by kernel_rfl) (by kernel_rfl) (fun _ _ _ h => h) (by rfl) (fun u hu => ?_) hS ?_
          rotate_left
          · ((have hT := HT2.out.below hu; obtain ⟨b0, b1, b2⟩ := obj_cells3 hT.2.1; obtain ⟨b3, b4, _, _⟩ := obj_cells hT.2.2.1; obtain ⟨b5, b6, _, _⟩ := obj_cells hT.2.2.2; clear hT); go_simp; try (with_reducible rfl))
          try simp only [Act.put, List.setIfInBounds_toArray, List.set_cons_zero, List.set_cons_succ]
          obtain ⟨d0, d1, f0, f1⟩ := obj_cells ho9
          have hr9 := obj_set2 ho9 (.int .i64 z1) (.int .i64 z1')
          have hS4 : Below x2.heap.size x2 _ := below_set2 hS hp9 (.int .i64 z1) (.int .i64 z1')
          refine give_val (i := 10) (v := ?_) rfl (by kernel_rfl) (by kernel_rfl) (by kernel_rfl) (fun _ _ _ h => h) (by rfl) (fun u hu => ?_) hS ?_
          rotate_left
          · ((have hT := HT2.out.below hu; obtain ⟨b0, b1, b2⟩ := obj_cells3 hT.2.1; obtain ⟨b3, b4, _, _⟩ := obj_cells hT.2.2.1; obtain ⟨b5, b6, _, _⟩ := obj_cells hT.2.2.2; clear hT); go_simp; try (with_reducible rfl))
          try simp only [Act.put, List.setIfInBounds_toArray, List.set_cons_zero, List.set_cons_succ]
          refine only (i := 11) rfl (by kernel_rfl) (by rfl) (fun K hK => ?_)
          go_simp
          refine hK.out _ _ hS4 ?_
          clear hK
          try simp only [Act.put, List.setIfInBounds_toArray, List.set_cons_zero, List.set_cons_succ]
          refine wpAnyH_done (by kernel_rfl) (NoPanic.normal ?_) _
          go_wp2_with fail
          go_meet
          exact ⟨p9, rfl, rfl, hr9, hS4⟩
  case rest =>
    obtain ⟨p, rfl, rfl, hp, hb⟩ := hcut
    have HT3 := Lib.hid (HT2.out.below hb)
    have HK3 := Lib.hid (HK2.out.below hb)
    have HL3 := Lib.hid (HL2.out.below hb)
    have HI3 := Lib.hid (HI2.out.below hb)
    have HP3 := Lib.hid hp
    clear hp hb HT2 HK2 HL2 HI2 HC1
    rename World => x3
    go_upto_region 4 with fail
    go_cut [9, 10] (fun s9 s10 wx => ∃ q : Nat, s9 = .string xb ∧ s10 = .pointer (some ⟨q, 0, none⟩) ∧ wx.heap[q]? = some (.cells #[.int .i64 z2, .int .i64 z2'] 37) ∧ Below x3.heap.size x3 wx)
    case first =>
      refine wp_region_noPanic ?_
      refine wp_region_held_drew (S := (fun u => Below x3.heap.size x3 u)) (by kernel_rfl) ((Below.refl _ _).drew) (fun hS => ?_)
      refine give_val (i := 0) (v := ?_) rfl (by kernel_rfl) (by kernel_rfl) (by kernel_rfl) (fun _ _ _ h => h) (by rfl) (fun u hu => ?_) hS ?_
      rotate_left
      · ((have hT := HT3.out.below hu; obtain ⟨b0, b1, b2⟩ := obj_cells3 hT.2.1; obtain ⟨b3, b4, _, _⟩ := obj_cells hT.2.2.1; obtain ⟨b5, b6, _, _⟩ := obj_cells hT.2.2.2; clear hT); go_simp; try (with_reducible rfl))
      try simp only [Act.put, List.setIfInBounds_toArray, List.set_cons_zero, List.set_cons_succ]
      refine give_val (i := 1) (v := ?_) rfl (by kernel_rfl) (by kernel_rfl) (by kernel_rfl) (fun _ _ _ h => h) (by rfl) (fun u hu => ?_) hS ?_
      rotate_left
      · ((have hT := HT3.out.below hu; obtain ⟨b0, b1, b2⟩ := obj_cells3 hT.2.1; obtain ⟨b3, b4, _, _⟩ := obj_cells hT.2.2.1; obtain ⟨b5, b6, _, _⟩ := obj_cells hT.2.2.2; clear hT); go_simp; try (with_reducible rfl))
      try simp only [Act.put, List.setIfInBounds_toArray, List.set_cons_zero, List.set_cons_succ]
      refine give_val (i := 2) (v := ?_) rfl (by kernel_rfl) (by kernel_rfl) (by kernel_rfl) (fun _ _ _ h => h) (by rfl) (fun u hu => ?_) hS ?_
      rotate_left
      · ((have hT := HT3.out.below hu; obtain ⟨b0, b1, b2⟩ := obj_cells3 hT.2.1; obtain ⟨b3, b4, _, _⟩ := obj_cells hT.2.2.1; obtain ⟨b5, b6, _, _⟩ := obj_cells hT.2.2.2; clear hT); go_simp; try (with_reducible rfl))
      try simp only [Act.put, List.setIfInBounds_toArray, List.set_cons_zero, List.set_cons_succ]
      refine give_val (i := 3) (v := ?_) rfl (by kernel_rfl) (by kernel_rfl) (by kernel_rfl) (fun _ _ _ h => h) (by rfl) (fun u hu => ?_) hS ?_
      rotate_left
      · ((have hT := HT3.out.below hu; obtain ⟨b0, b1, b2⟩ := obj_cells3 hT.2.1; obtain ⟨b3, b4, _, _⟩ := obj_cells hT.2.2.1; obtain ⟨b5, b6, _, _⟩ := obj_cells hT.2.2.2; clear hT); go_simp; try (with_reducible rfl))
      try simp only [Act.put, List.setIfInBounds_toArray, List.set_cons_zero, List.set_cons_succ]
      refine give_val (i := 4) (v := ?_) rfl (by kernel_rfl) (by kernel_rfl) (by kernel_rfl) (fun _ _ _ h => h) (by rfl) (fun u hu => ?_) hS ?_
      rotate_left
      · ((have hT := HT3.out.below hu; obtain ⟨b0, b1, b2⟩ := obj_cells3 hT.2.1; obtain ⟨b3, b4, _, _⟩ := obj_cells hT.2.2.1; obtain ⟨b5, b6, _, _⟩ := obj_cells hT.2.2.2; clear hT); go_simp; try (with_reducible rfl))
      try simp only [Act.put, List.setIfInBounds_toArray, List.set_cons_zero, List.set_cons_succ]
      refine give_val (i := 5) (v := ?_) rfl (by kernel_rfl) (by kernel_rfl) (by kernel_rfl) (fun _ _ _ h => h) (by rfl) (fun u hu => ?_) hS ?_
      rotate_left
      · ((have hT := HT3.out.below hu; obtain ⟨b0, b1, b2⟩ := obj_cells3 hT.2.1; obtain ⟨b3, b4, _, _⟩ := obj_cells hT.2.2.1; obtain ⟨b5, b6, _, _⟩ := obj_cells hT.2.2.2; clear hT); go_simp; try (with_reducible rfl))
      try simp only [Act.put, List.setIfInBounds_toArray, List.set_cons_zero, List.set_cons_succ]
      refine wpAnyH_ready (rs := [6, 11]) (by kernel_rfl) (by simp) (arm_some (i := 6) 23 #[.agg #[.string m, .slice B n c], .int .i64 no, .string t] rfl (by rfl) (HWI.out _ (HL3.out.below hS)) ?_ ?_ (arm_alloc (i := 11) (.cells #[.int .i64 0, .int .i64 0] 37) rfl (by rfl) ?_ ?_ AllReadyH.nil))
      · (go_simp; try (with_reducible rfl))
      · intro v6 u' hT
        obtain ⟨A6, c6, rfl, ht6, hb⟩ := hT
        have hS' : (fun u => Below x3.heap.size x3 u) u' := hbt hS hb
        refine ⟨hS', ?_⟩
        clear hS hb
        have hS := hS'; clear hS'
        rename World => u
        try simp only [Act.put, List.setIfInBounds_toArray, List.set_cons_zero, List.set_cons_succ]
        refine wpAnyH_ready (rs := [7, 11]) (by kernel_rfl) (by simp) (arm_call (i := 7) 13 #[.agg #[.int .i64 st, .int .i64 v, .slice A len cap], .agg #[.string m, .slice A6 wn c6]] rfl (by rfl) (HC2.out A6 c6 _ (HK3.out.below hS) (HI3.out.below hS) ht6) ?_ ?_ (arm_alloc (i := 11) (.cells #[.int .i64 0, .int .i64 0] 37) rfl (by rfl) ?_ ?_ AllReadyH.nil))
        · (go_simp; try (with_reducible rfl))
        · intro u' hb
          have hS' : (fun u => Below x3.heap.size x3 u) u' := hbt hS hb
          refine ⟨hS', ?_⟩
          replace ht6 := ht6.below hb
          clear hS hb
          have hS := hS'; clear hS'
          rename World => u
          try simp only [Act.put, List.setIfInBounds_toArray, List.set_cons_zero, List.set_cons_succ]
          refine give_val (i := 8) (v := ?_) rfl (by kernel_rfl) (by kernel_rfl) (by kernel_rfl) (fun _ _ _ h => h) (by rfl) (fun u hu => ?_) hS ?_
          rotate_left
          · ((have hT := HT3.out.below hu; obtain ⟨b0, b1, b2⟩ := obj_cells3 hT.2.1; obtain ⟨b3, b4, _, _⟩ := obj_cells hT.2.2.1; obtain ⟨b5, b6, _, _⟩ := obj_cells hT.2.2.2; clear hT); go_simp; try (with_reducible rfl))
          try simp only [Act.put, List.setIfInBounds_toArray, List.set_cons_zero, List.set_cons_succ]
          refine give_val (i := 9) (v := ?_) rfl (by kernel_rfl) (by kernel_rfl) (by kernel_rfl) (fun _ _ _ h => h) (by rfl) (fun u hu => ?_) hS ?_
          rotate_left
          · ((have hT := HT3.out.below hu; obtain ⟨b0, b1, b2⟩ := obj_cells3 hT.2.1; obtain ⟨b3, b4, _, _⟩ := obj_cells hT.2.2.1; obtain ⟨b5, b6, _, _⟩ := obj_cells hT.2.2.2; clear hT); go_simp; try (with_reducible rfl))
          try simp only [Act.put, List.setIfInBounds_toArray, List.set_cons_zero, List.set_cons_succ]
          refine give_val (i := 10) (v := ?_) rfl (by kernel_rfl) (by kernel_rfl) (by kernel_rfl) (fun _ _ _ h => h) (by rfl) (fun u hu => ?_) hS ?_
          rotate_left
          · ((have hT := HT3.out.below hu; obtain ⟨b0, b1, b2⟩ := obj_cells3 hT.2.1; obtain ⟨b3, b4, _, _⟩ := obj_cells hT.2.2.1; obtain ⟨b5, b6, _, _⟩ := obj_cells hT.2.2.2; clear hT); go_simp; try (with_reducible rfl))
          try simp only [Act.put, List.setIfInBounds_toArray, List.set_cons_zero, List.set_cons_succ]
          refine wpAnyH_ready (rs := [11]) (by kernel_rfl) (by simp) (arm_alloc (i := 11) (.cells #[.int .i64 0, .int .i64 0] 37) rfl (by rfl) ?_ ?_ AllReadyH.nil)
          · (go_simp; try (with_reducible rfl))
          · intro p11 u' hb ho11 hp11
            replace hp11 := Nat.le_trans (hS.size) hp11
            have hS' : (fun u => Below x3.heap.size x3 u) u' := hbt hS hb
            refine ⟨hS', ?_⟩
            replace ht6 := ht6.below hb
            clear hS hb
            have hS := hS'; clear hS'
            rename World => u
            try simp only [Act.put, List.setIfInBounds_toArray, List.set_cons_zero, List.set_cons_succ]
            obtain ⟨d0, d1, f0, f1⟩ := obj_cells ho11
            have hr11 := obj_set2 ho11 (.int .i64 z2) (.int .i64 z2')
            have hS4 : Below x3.heap.size x3 _ := below_set2 hS hp11 (.int .i64 z2) (.int .i64 z2')
            refine give_val (i := 12) (v := ?_) rfl (by kernel_rfl) (by kernel_rfl) (by kernel_rfl) (fun _ _ _ h => h) (by rfl) (fun u hu => ?_) hS ?_
            rotate_left
            · ((have hT := HT3.out.below hu; obtain ⟨b0, b1, b2⟩ := obj_cells3 hT.2.1; obtain ⟨b3, b4, _, _⟩ := obj_cells hT.2.2.1; obtain ⟨b5, b6, _, _⟩ := obj_cells hT.2.2.2; clear hT); go_simp; try (with_reducible rfl))
            try simp only [Act.put, List.setIfInBounds_toArray, List.set_cons_zero, List.set_cons_succ]
            refine only (i := 13) rfl (by kernel_rfl) (by rfl) (fun K hK => ?_)
            go_simp
            refine hK.out _ _ hS4 ?_
            clear hK
            try simp only [Act.put, List.setIfInBounds_toArray, List.set_cons_zero, List.set_cons_succ]
            refine wpAnyH_done (by kernel_rfl) (NoPanic.normal ?_) _
            go_wp2_with fail
            go_meet
            exact ⟨p11, rfl, rfl, hr11, hS4⟩
        · (go_simp; try (with_reducible rfl))
        · intro p11 u' hb ho11 hp11
          replace hp11 := Nat.le_trans (hS.size) hp11
          have hS' : (fun u => Below x3.heap.size x3 u) u' := hbt hS hb
          refine ⟨hS', ?_⟩
          replace ht6 := ht6.below hb
          clear hS hb
          have hS := hS'; clear hS'
          rename World => u
          try simp only [Act.put, List.setIfInBounds_toArray, List.set_cons_zero, List.set_cons_succ]
          refine wpAnyH_ready (rs := [7]) (by kernel_rfl) (by simp) (arm_call (i := 7) 13 #[.agg #[.int .i64 st, .int .i64 v, .slice A len cap], .agg #[.string m, .slice A6 wn c6]] rfl (by rfl) (HC2.out A6 c6 _ (HK3.out.below hS) (HI3.out.below hS) ht6) ?_ ?_ AllReadyH.nil)
          · (go_simp; try (with_reducible rfl))
          · intro u' hb
            have hS' : (fun u => Below x3.heap.size x3 u) u' := hbt hS hb
            refine ⟨hS', ?_⟩
            replace ho11 := obj_below ho11 hb
            replace ht6 := ht6.below hb
            clear hS hb
            have hS := hS'; clear hS'
            rename World => u
            try simp only [Act.put, List.setIfInBounds_toArray, List.set_cons_zero, List.set_cons_succ]
            refine give_val (i := 8) (v := ?_) rfl (by kernel_rfl) (by kernel_rfl) (by kernel_rfl) (fun _ _ _ h => h) (by rfl) (fun u hu => ?_) hS ?_
            rotate_left
            · ((have hT := HT3.out.below hu; obtain ⟨b0, b1, b2⟩ := obj_cells3 hT.2.1; obtain ⟨b3, b4, _, _⟩ := obj_cells hT.2.2.1; obtain ⟨b5, b6, _, _⟩ := obj_cells hT.2.2.2; clear hT); go_simp; try (with_reducible rfl))
            try simp only [Act.put, List.setIfInBounds_toArray, List.set_cons_zero, List.set_cons_succ]
            refine give_val (i := 9) (v := ?_) rfl (by kernel_rfl) (by kernel_rfl) (by kernel_rfl) (fun _ _ _ h => h) (by rfl) (fun u hu => ?_) hS ?_
            rotate_left
            · ((have hT := HT3.out.below hu; obtain ⟨b0, b1, b2⟩ := obj_cells3 hT.2.1; obtain ⟨b3, b4, _, _⟩ := obj_cells hT.2.2.1; obtain ⟨b5, b6, _, _⟩ := obj_cells hT.2.2.2; clear hT); go_simp; try (with_reducible rfl))
            try simp only [Act.put, List.setIfInBounds_toArray, List.set_cons_zero, List.set_cons_succ]
            refine give_val (i := 10) (v := ?_) rfl (by kernel_rfl) (by kernel_rfl) (by kernel_rfl) (fun _ _ _ h => h) (by rfl) (fun u hu => ?_) hS ?_
            rotate_left
            · ((have hT := HT3.out.below hu; obtain ⟨b0, b1, b2⟩ := obj_cells3 hT.2.1; obtain ⟨b3, b4, _, _⟩ := obj_cells hT.2.2.1; obtain ⟨b5, b6, _, _⟩ := obj_cells hT.2.2.2; clear hT); go_simp; try (with_reducible rfl))
            try simp only [Act.put, List.setIfInBounds_toArray, List.set_cons_zero, List.set_cons_succ]
            obtain ⟨d0, d1, f0, f1⟩ := obj_cells ho11
            have hr11 := obj_set2 ho11 (.int .i64 z2) (.int .i64 z2')
            have hS4 : Below x3.heap.size x3 _ := below_set2 hS hp11 (.int .i64 z2) (.int .i64 z2')
            refine give_val (i := 12) (v := ?_) rfl (by kernel_rfl) (by kernel_rfl) (by kernel_rfl) (fun _ _ _ h => h) (by rfl) (fun u hu => ?_) hS ?_
            rotate_left
            · ((have hT := HT3.out.below hu; obtain ⟨b0, b1, b2⟩ := obj_cells3 hT.2.1; obtain ⟨b3, b4, _, _⟩ := obj_cells hT.2.2.1; obtain ⟨b5, b6, _, _⟩ := obj_cells hT.2.2.2; clear hT); go_simp; try (with_reducible rfl))
            try simp only [Act.put, List.setIfInBounds_toArray, List.set_cons_zero, List.set_cons_succ]
            refine only (i := 13) rfl (by kernel_rfl) (by rfl) (fun K hK => ?_)
            go_simp
            refine hK.out _ _ hS4 ?_
            clear hK
            try simp only [Act.put, List.setIfInBounds_toArray, List.set_cons_zero, List.set_cons_succ]
            refine wpAnyH_done (by kernel_rfl) (NoPanic.normal ?_) _
            go_wp2_with fail
            go_meet
            exact ⟨p11, rfl, rfl, hr11, hS4⟩
      · (go_simp; try (with_reducible rfl))
      · intro p11 u' hb ho11 hp11
        replace hp11 := Nat.le_trans (hS.size) hp11
        have hS' : (fun u => Below x3.heap.size x3 u) u' := hbt hS hb
        refine ⟨hS', ?_⟩
        clear hS hb
        have hS := hS'; clear hS'
        rename World => u
        try simp only [Act.put, List.setIfInBounds_toArray, List.set_cons_zero, List.set_cons_succ]
        refine wpAnyH_ready (rs := [6]) (by kernel_rfl) (by simp) (arm_some (i := 6) 23 #[.agg #[.string m, .slice B n c], .int .i64 no, .string t] rfl (by rfl) (HWI.out _ (HL3.out.below hS)) ?_ ?_ AllReadyH.nil)
        · (go_simp; try (with_reducible rfl))
        · intro v6 u' hT
          obtain ⟨A6, c6, rfl, ht6, hb⟩ := hT
          have hS' : (fun u => Below x3.heap.size x3 u) u' := hbt hS hb
          refine ⟨hS', ?_⟩
          replace ho11 := obj_below ho11 hb
          clear hS hb
          have hS := hS'; clear hS'
          rename World => u
          try simp only [Act.put, List.setIfInBounds_toArray, List.set_cons_zero, List.set_cons_succ]
          refine wpAnyH_ready (rs := [7]) (by kernel_rfl) (by simp) (arm_call (i := 7) 13 #[.agg #[.int .i64 st, .int .i64 v, .slice A len cap], .agg #[.string m, .slice A6 wn c6]] rfl (by rfl) (HC2.out A6 c6 _ (HK3.out.below hS) (HI3.out.below hS) ht6) ?_ ?_ AllReadyH.nil)
          · (go_simp; try (with_reducible rfl))
          · intro u' hb
            have hS' : (fun u => Below x3.heap.size x3 u) u' := hbt hS hb
            refine ⟨hS', ?_⟩
            replace ho11 := obj_below ho11 hb
            replace ht6 := ht6.below hb
            clear hS hb
            have hS := hS'; clear hS'
            rename World => u
            try simp only [Act.put, List.setIfInBounds_toArray, List.set_cons_zero, List.set_cons_succ]
            refine give_val (i := 8) (v := ?_) rfl (by kernel_rfl) (by kernel_rfl) (by kernel_rfl) (fun _ _ _ h => h) (by rfl) (fun u hu => ?_) hS ?_
            rotate_left
            · ((have hT := HT3.out.below hu; obtain ⟨b0, b1, b2⟩ := obj_cells3 hT.2.1; obtain ⟨b3, b4, _, _⟩ := obj_cells hT.2.2.1; obtain ⟨b5, b6, _, _⟩ := obj_cells hT.2.2.2; clear hT); go_simp; try (with_reducible rfl))
            try simp only [Act.put, List.setIfInBounds_toArray, List.set_cons_zero, List.set_cons_succ]
            refine give_val (i := 9) (v := ?_) rfl (by kernel_rfl) (by kernel_rfl) (by kernel_rfl) (fun _ _ _ h => h) (by rfl) (fun u hu => ?_) hS ?_
            rotate_left
            · ((have hT := HT3.out.below hu; obtain ⟨b0, b1, b2⟩ := obj_cells3 hT.2.1; obtain ⟨b3, b4, _, _⟩ := obj_cells hT.2.2.1; obtain ⟨b5, b6, _, _⟩ := obj_cells hT.2.2.2; clear hT); go_simp; try (with_reducible rfl))
            try simp only [Act.put, List.setIfInBounds_toArray, List.set_cons_zero, List.set_cons_succ]
            refine give_val (i := 10) (v := ?_) rfl (by kernel_rfl) (by kernel_rfl) (by kernel_rfl) (fun _ _ _ h => h) (by rfl) (fun u hu => ?_) hS ?_
            rotate_left
            · ((have hT := HT3.out.below hu; obtain ⟨b0, b1, b2⟩ := obj_cells3 hT.2.1; obtain ⟨b3, b4, _, _⟩ := obj_cells hT.2.2.1; obtain ⟨b5, b6, _, _⟩ := obj_cells hT.2.2.2; clear hT); go_simp; try (with_reducible rfl))
            try simp only [Act.put, List.setIfInBounds_toArray, List.set_cons_zero, List.set_cons_succ]
            obtain ⟨d0, d1, f0, f1⟩ := obj_cells ho11
            have hr11 := obj_set2 ho11 (.int .i64 z2) (.int .i64 z2')
            have hS4 : Below x3.heap.size x3 _ := below_set2 hS hp11 (.int .i64 z2) (.int .i64 z2')
            refine give_val (i := 12) (v := ?_) rfl (by kernel_rfl) (by kernel_rfl) (by kernel_rfl) (fun _ _ _ h => h) (by rfl) (fun u hu => ?_) hS ?_
            rotate_left
            · ((have hT := HT3.out.below hu; obtain ⟨b0, b1, b2⟩ := obj_cells3 hT.2.1; obtain ⟨b3, b4, _, _⟩ := obj_cells hT.2.2.1; obtain ⟨b5, b6, _, _⟩ := obj_cells hT.2.2.2; clear hT); go_simp; try (with_reducible rfl))
            try simp only [Act.put, List.setIfInBounds_toArray, List.set_cons_zero, List.set_cons_succ]
            refine only (i := 13) rfl (by kernel_rfl) (by rfl) (fun K hK => ?_)
            go_simp
            refine hK.out _ _ hS4 ?_
            clear hK
            try simp only [Act.put, List.setIfInBounds_toArray, List.set_cons_zero, List.set_cons_succ]
            refine wpAnyH_done (by kernel_rfl) (NoPanic.normal ?_) _
            go_wp2_with fail
            go_meet
            exact ⟨p11, rfl, rfl, hr11, hS4⟩
    case rest =>
      obtain ⟨q, rfl, rfl, hq, hb⟩ := hcut
      have HT4 := Lib.hid (HT3.out.below hb)
      have HK4 := Lib.hid (HK3.out.below hb)
      have HL4 := Lib.hid (HL3.out.below hb)
      have HI4 := Lib.hid (HI3.out.below hb)
      obtain ⟨c0, c1, _, _⟩ := obj_cells (obj_below HP3.out hb)
      obtain ⟨d0, d1, _, _⟩ := obj_cells hq
      clear hq hb HT3 HK3 HL3 HI3 HP3 HC2 HWI
      rename World => x4
      by_cases hz1 : z1 = 0
      · by_cases hz2 : z2 = 0
        · subst hz1
          subst hz2
          obtain ⟨rfl, rfl, k, cs, mo, rfl, hk, hcp, hsum, hsz, hcase⟩ := HGD.out rfl rfl
          have HCP := Lib.hid hcp
          have HK12 := Lib.hid hk
          clear HGD HZ hcp hk
          obtain ⟨b0, b1, b2⟩ := obj_cells3 HT4.out.2.1
          obtain ⟨b5, b6, _, _⟩ := obj_cells HT4.out.2.2.2
          go_wp2_with fail
          refine (HF1.out _ HI4.out).mono ?_
          rintro e x5 ⟨rfl, hb5⟩
          have hal := hbt hb5 (below_al x5 (.cells #[.int .i64 n', .int .i64 c', .int .i64 f', .int .i64 lo', .int .i64 hi'] 53))
          have HT6 := Lib.hid (HT4.out.below hal)
          have HK6 := Lib.hid (HK4.out.below hal)
          have HL6 := Lib.hid (HL4.out.below hal)
          clear b0 b1 b2 b5 b6 c0 c1 d0 d1
          obtain ⟨b0, b1, b2⟩ := obj_cells3 (HT4.out.below hb5).2.1
          obtain ⟨b5, b6, _, _⟩ := obj_cells (HT4.out.below hb5).2.2.2
          have hlt1 := obj_lt (HT4.out.below hb5).2.1
          have hlt2 := obj_lt (HT4.out.below hb5).2.2.2
          clear hb5 hal HT4 HK4 HL4 HI4
          go_wp2_with fail
          generalize x5.alloc (.cells #[.int .i64 n', .int .i64 c', .int .i64 f', .int .i64 lo', .int .i64 hi'] 53) = X6 at *
          refine (HCP.out _ HK6.out).mono ?_
          rintro e x7 ⟨rfl, hb7⟩
          have HT7 := Lib.hid (HT6.out.below hb7)
          have HL7 := Lib.hid (HL6.out.below hb7)
          clear hb7 HT6 HK6 HL6 b0 b1 b2 b5 b6 hlt1 hlt2
          obtain ⟨b0, b1, b2⟩ := obj_cells3 HT7.out.2.1
          obtain ⟨b3, b4, _, _⟩ := obj_cells HT7.out.2.2.1
          obtain ⟨b5, b6, _, _⟩ := obj_cells HT7.out.2.2.2
          rcases hcase with ⟨hno, rfl⟩ | ⟨hno, hnx, rfl⟩ | ⟨hno, hnx, hmo⟩
          · have tno : decide ((64 : Int) < no) = false := by simpa using hno
            go_wp2
            go_ret
            exact ⟨by simp, HT7.out.1⟩
          · have tno : decide ((64 : Int) < no) = true := by simpa using hno
            have tnx : ((nx : Int) == 0) = false := by simp; omega
            go_wp2_with fail
            refine (HWO.out _ HL7.out).mono ?_
            rintro e x8 ⟨_, rfl, A8, c8, rfl, ht8, hb8⟩
            have HT8 := Lib.hid (HT7.out.below hb8)
            have HV8 := Lib.hid ht8
            clear hb8 ht8 b0 b1 b2 b3 b4 b5 b6
            go_wp2_with fail
            refine (HS.out A8 c8 _ HV8.out).mono ?_
            rintro e x9 ⟨rfl, hb9⟩
            have HT9 := Lib.hid (HT8.out.below hb9)
            clear hb9
            go_wp2_with fail
            refine (HN.out _).mono ?_
            rintro e x10 ⟨rfl, hb10⟩
            have HT10 := Lib.hid (HT9.out.below hb10)
            clear hb10
            go_wp2
            go_ret
            exact ⟨by simp, HT10.out.1⟩
          · have tno : decide ((64 : Int) < no) = true := by simpa using hno
            subst hnx
            go_wp2_with fail
            refine (HWO.out _ HL7.out).mono ?_
            rintro e x8 ⟨_, rfl, A8, c8, rfl, ht8, hb8⟩
            have HT8 := Lib.hid (HT7.out.below hb8)
            have HV8 := Lib.hid ht8
            clear hb8 ht8 b0 b1 b2 b3 b4 b5 b6
            go_wp2_with fail
            refine (HS.out A8 c8 _ HV8.out).mono ?_
            rintro e x9 ⟨rfl, hb9⟩
            have HT9 := Lib.hid (HT8.out.below hb9)
            clear hb9
            go_wp2_with fail
            refine (HN.out _).mono ?_
            rintro e x10 ⟨rfl, hb10⟩
            have HT10 := Lib.hid (HT9.out.below hb10)
            clear hb10
            obtain ⟨b0, b1, b2⟩ := obj_cells3 HT10.out.2.1
            rcases hmo with ⟨hk1, rfl⟩ | ⟨hk1, rfl⟩
            · have tk : ((k : Int) == 1) = true := by subst hk1; rfl
              go_wp2
              go_ret
              exact ⟨by simp, HT10.out.1⟩
            · have tk : ((k : Int) == 1) = false := by subst hk1; rfl
              go_wp2
              go_ret
              exact ⟨by simp, HT10.out.1⟩
        · subst hz1
          obtain rfl := HZ.out rfl
          have tz : (z2 == 0) = false := by simpa using hz2
          clear HGD HZ hz2
          go_wp2
          go_ret
          exact ⟨rfl, HT4.out.1⟩
      · have tz : (z1 == 0) = false := by simpa using hz1
        clear HGD HZ hz1
        go_wp2
        go_ret
        exact ⟨rfl, HT4.out.1⟩

theorem wadds_walk (st v : Int) (A : Option Addr) (cap : Nat) (sl : List Sp) (m : ByteArray) (B : Option Addr) (c : Nat) (l : List Item) (no : Int) (t : ByteArray) (w : World) (hK : Kinds w) (hI : Spl w A sl) (_h1 : sl.length ≤ maxLen) (_hm : m.size ≤ maxLen) (hL : Tlvs w B l) (_h2 : l.length ≤ maxLen) (hf : ∀ x ∈ l, x.2.size ≤ maxLen) (ht : t.size ≤ maxLen) :
    Calls Tryd.prog 7 #[.agg #[.int .i64 st, .int .i64 v, .slice A sl.length cap], .agg #[.string m, .slice B l.length c], .agg #[.int .i64 no, .string t]] w fun e w' => e = .returned (.bool true) ∧ Below w.heap.size w w' := by
  by_cases h : 200 < sl.length
  · exact wadds_long st v A _ cap m B _ c no t w hK h
  · cases hg : greatM m l
    · by_cases hh : 1000 < t.size
      · exact wadds_text st v A _ cap m B c l no t w hK hL hf h hg hh
      · exact wadds_main st v A cap sl m B c l no t w hK hI hL hf ht h hg hh
    · exact wadds_great st v A _ cap m B c l no t w hK hL hf h hg

end Go.Proofs.YtckapcafpnlnoaaDoor
