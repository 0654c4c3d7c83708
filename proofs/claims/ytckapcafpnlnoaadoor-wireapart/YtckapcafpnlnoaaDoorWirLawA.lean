/-
  The law WireApart: for every schema and two messages, in every world that holds the table of kinds.
-/
import Derived.Test.YtckapcafpnlnoaaDoorWirAwk
import Derived.Test.YtckapcafpnlnoaaDoorWirCut
import Derived.Test.YtckapcafpnlnoaaDoorMsgRead
import Derived.Test.YtckapcafpnlnoaaDoorMsgEq
namespace Go.Proofs.YtckapcafpnlnoaaDoor
open Go.RowKit

/-- A schema and two messages in the first three blocks that the law makes. -/
def WTwo (w : World) (st v : Int) (A : Option Addr) (len cap : Nat) (m : ByteArray) (B : Option Addr) (n c : Nat) (m' : ByteArray) (B' : Option Addr) (n' c' : Nat) (u : World) : Prop :=
  Below w.heap.size w u ∧ Box u w.heap.size st v A len cap ∧ MBox u (w.heap.size + 1) m B n c ∧ MBox u (w.heap.size + 2) m' B' n' c'
theorem WTwo.below {w : World} {st v : Int} {A : Option Addr} {len cap : Nat} {m : ByteArray} {B : Option Addr} {n c : Nat} {m' : ByteArray} {B' : Option Addr} {n' c' : Nat} {u u' : World} (h : WTwo w st v A len cap m B n c m' B' n' c' u) (hb : Below u.heap.size u u') : WTwo w st v A len cap m B n c m' B' n' c' u' :=
  ⟨hbt h.1 hb, h.2.1.below hb, h.2.2.1.below hb, h.2.2.2.below hb⟩
theorem wtwo_new (w : World) (st v : Int) (A : Option Addr) (len cap : Nat) (m : ByteArray) (B : Option Addr) (n c : Nat) (m' : ByteArray) (B' : Option Addr) (n' c' : Nat) : WTwo w st v A len cap m B n c m' B' n' c' (((w.alloc (.cells #[.int .i64 st, .int .i64 v, .slice A len cap] 30)).alloc (.cells #[.string m, .slice B n c] 33)).alloc (.cells #[.string m', .slice B' n' c'] 33)) :=
  ⟨hbt (hbt (below_al _ _) (below_al _ _)) (below_al _ _), ((box_new _ _ _ _ _ _).below (below_al _ _)).below (below_al _ _), obj_below (heap_al _ _ _ (by simp)) (below_al _ _), heap_al _ _ _ (by simp)⟩

/-- Two messages' bytes, cut to the shorter ones' length, are the same just if the messages are. -/
theorem wapart_eq {st v : Int} {sl : List Sp} {m m' : ByteArray} {l l' : List Item} (h : msgN st v sl m l = (0, 0)) (h' : msgN st v sl m' l' = (0, 0)) :
    (encS st v sl m l).extract 0 (min (encS st v sl m l).size (encS st v sl m' l').size) = (encS st v sl m' l').extract 0 (min (encS st v sl m l).size (encS st v sl m' l').size) ↔ sameM m l m' l' = true := by
  have hx : ∀ (l : List UInt8) (k : Nat), (⟨l.toArray⟩ : ByteArray).extract 0 k = ⟨(l.take k).toArray⟩ := by
    intro l k
    rw [ByteArray.ext_iff]
    apply Array.toList_inj.1
    simp
  unfold sameM
  rw [encS_yes h, encS_yes h', mk_size, mk_size, hx, hx, decide_eq_true_eq]
  constructor
  · intro g
    have g2 := congrArg (fun z : ByteArray => z.data.toList) g
    dsimp only at g2
    exact enc_part (valid_all h).1 (valid_all h').1 (valid_in h).2.2 (valid_in h').2.2 g2
  · rintro ⟨rfl, rfl⟩
    rfl
set_option maxRecDepth 100000 in
set_option maxHeartbeats 3200000 in
theorem wapart_long (st v : Int) (A : Option Addr) (len cap : Nat) (m : ByteArray) (B : Option Addr) (n c : Nat) (m' : ByteArray) (B' : Option Addr) (n' c' : Nat) (w : World) (hK : Kinds w) (h : 200 < len) :
    Calls Tryd.prog 6 #[.agg #[.int .i64 st, .int .i64 v, .slice A len cap], .agg #[.string m, .slice B n c], .agg #[.string m', .slice B' n' c']] w fun e w' => e = .returned (.bool true) ∧ Below w.heap.size w w' := by
  have t : decide ((200 : Int) < (len : Int)) = true := by simp; omega
  have HT := Lib.hid (wtwo_new w st v A len cap m B n c m' B' n' c')
  have HK := Lib.hid (hK.below HT.out.1)
  clear h hK
  go_enter Tryd.func6, Tryd.ntmps6
  go_wp2_with fail
  generalize ((w.alloc (.cells #[.int .i64 st, .int .i64 v, .slice A len cap] 30)).alloc (.cells #[.string m, .slice B n c] 33)).alloc (.cells #[.string m', .slice B' n' c'] 33) = U at *
  refine (wawake_any _ HK.out).mono ?_
  rintro e w1 ⟨rfl, hb1⟩
  have HT1 := Lib.hid (HT.out.below hb1)
  have HK1 := Lib.hid (HK.out.below hb1)
  obtain ⟨b0, b1, b2⟩ := obj_cells3 HT1.out.2.1
  clear hb1
  go_wp2_with fail
  refine (wawake_any _ HK1.out).mono ?_
  rintro e w2 ⟨rfl, hb2⟩
  have HB2 := Lib.hid (hbt HT1.out.1 hb2)
  clear hb2 b0 b1 b2
  go_wp2
  go_ret
  exact ⟨rfl, HB2.out⟩
set_option maxRecDepth 100000 in
set_option maxHeartbeats 3200000 in
theorem wapart_great (st v : Int) (A : Option Addr) (len cap : Nat) (m : ByteArray) (B : Option Addr) (c : Nat) (l : List Item) (m' : ByteArray) (B' : Option Addr) (c' : Nat) (l' : List Item) (w : World) (hK : Kinds w) (hL : Tlvs w B l) (hf : ∀ x ∈ l, x.2.size ≤ maxLen) (hL' : Tlvs w B' l') (hf' : ∀ x ∈ l', x.2.size ≤ maxLen) (h : ¬ 200 < len) (hg : greatM m l = true ∨ (greatM m l = false ∧ greatM m' l' = true)) :
    Calls Tryd.prog 6 #[.agg #[.int .i64 st, .int .i64 v, .slice A len cap], .agg #[.string m, .slice B l.length c], .agg #[.string m', .slice B' l'.length c']] w fun e w' => e = .returned (.bool true) ∧ Below w.heap.size w w' := by
  have t : decide ((200 : Int) < (len : Int)) = false := by simp; omega
  have HT := Lib.hid (wtwo_new w st v A len cap m B l.length c m' B' l'.length c')
  have HK := Lib.hid (hK.below HT.out.1)
  have HL := Lib.hid (hL.below HT.out.1)
  have HL' := Lib.hid (hL'.below HT.out.1)
  have HG := Lib.hid (fun W hW => mgreat_any m B c l W hW hf)
  have HG' := Lib.hid (fun W hW => mgreat_any m' B' c' l' W hW hf')
  rcases hg with hg | ⟨hg, hg'⟩
  · rw [hg] at HG
    clear h hK hL hf hg hL' hf'
    generalize l.length = n at *
    generalize l'.length = n' at *
    go_enter Tryd.func6, Tryd.ntmps6
    go_wp2_with fail
    generalize ((w.alloc (.cells #[.int .i64 st, .int .i64 v, .slice A len cap] 30)).alloc (.cells #[.string m, .slice B n c] 33)).alloc (.cells #[.string m', .slice B' n' c'] 33) = U at *
    refine (wawake_any _ HK.out).mono ?_
    rintro e w1 ⟨rfl, hb1⟩
    have HT1 := Lib.hid (HT.out.below hb1)
    have HK1 := Lib.hid (HK.out.below hb1)
    have HL1 := Lib.hid (HL.out.below hb1)
    obtain ⟨b0, b1, b2⟩ := obj_cells3 HT1.out.2.1
    obtain ⟨b3, b4, _, _⟩ := obj_cells HT1.out.2.2.1
    clear hb1
    go_wp2_with fail
    refine (HG.out _ HL1.out).mono ?_
    rintro e w2 ⟨rfl, hb2⟩
    have HB2 := Lib.hid (hbt HT1.out.1 hb2)
    have HK2 := Lib.hid (HK1.out.below hb2)
    clear hb2 b0 b1 b2 b3 b4
    go_wp2_with fail
    refine (wawake_any _ HK2.out).mono ?_
    rintro e w3 ⟨rfl, hb3⟩
    have HB3 := Lib.hid (hbt HB2.out hb3)
    clear hb3
    go_wp2
    go_ret
    exact ⟨rfl, HB3.out⟩
  · rw [hg] at HG
    rw [hg'] at HG'
    clear h hK hL hf hg hL' hf' hg'
    generalize l.length = n at *
    generalize l'.length = n' at *
    go_enter Tryd.func6, Tryd.ntmps6
    go_wp2_with fail
    generalize ((w.alloc (.cells #[.int .i64 st, .int .i64 v, .slice A len cap] 30)).alloc (.cells #[.string m, .slice B n c] 33)).alloc (.cells #[.string m', .slice B' n' c'] 33) = U at *
    refine (wawake_any _ HK.out).mono ?_
    rintro e w1 ⟨rfl, hb1⟩
    have HT1 := Lib.hid (HT.out.below hb1)
    have HK1 := Lib.hid (HK.out.below hb1)
    have HL1 := Lib.hid (HL.out.below hb1)
    have HL1' := Lib.hid (HL'.out.below hb1)
    obtain ⟨b0, b1, b2⟩ := obj_cells3 HT1.out.2.1
    obtain ⟨b3, b4, _, _⟩ := obj_cells HT1.out.2.2.1
    clear hb1
    go_wp2_with fail
    refine (HG.out _ HL1.out).mono ?_
    rintro e w2 ⟨rfl, hb2⟩
    have HT2 := Lib.hid (HT1.out.below hb2)
    have HK2 := Lib.hid (HK1.out.below hb2)
    have HL2' := Lib.hid (HL1'.out.below hb2)
    clear hb2 b0 b1 b2 b3 b4
    obtain ⟨b3, b4, _, _⟩ := obj_cells HT2.out.2.2.2
    go_wp2_with fail
    refine (HG'.out _ HL2'.out).mono ?_
    rintro e w3 ⟨rfl, hb3⟩
    have HT3 := Lib.hid (HT2.out.below hb3)
    have HK3 := Lib.hid (HK2.out.below hb3)
    clear hb3 b3 b4
    go_wp2_with fail
    refine (wawake_any _ HK3.out).mono ?_
    rintro e w4 ⟨rfl, hb4⟩
    have HB4 := Lib.hid (hbt HT3.out.1 hb4)
    clear hb4
    go_wp2
    go_ret
    exact ⟨rfl, HB4.out⟩
set_option maxRecDepth 100000 in
set_option maxHeartbeats 12800000 in
theorem wapart_main (st v : Int) (A : Option Addr) (cap : Nat) (sl : List Sp) (m : ByteArray) (B : Option Addr) (c : Nat) (l : List Item) (m' : ByteArray) (B' : Option Addr) (c' : Nat) (l' : List Item) (w : World) (hK : Kinds w) (hI : Spl w A sl) (hL : Tlvs w B l) (hf : ∀ x ∈ l, x.2.size ≤ maxLen) (hL' : Tlvs w B' l') (hf' : ∀ x ∈ l', x.2.size ≤ maxLen) (h : ¬ 200 < sl.length) (hg : greatM m l = false) (hg' : greatM m' l' = false) :
    Calls Tryd.prog 6 #[.agg #[.int .i64 st, .int .i64 v, .slice A sl.length cap], .agg #[.string m, .slice B l.length c], .agg #[.string m', .slice B' l'.length c']] w fun e w' => e = .returned (.bool true) ∧ Below w.heap.size w w' := by
  have t : decide ((200 : Int) < (sl.length : Int)) = false := by simp; omega
  have hn : sl.length ≤ 1000 := by omega
  have hl : l.length ≤ 1000 := by have := (great_in hg).2.1; omega
  have hl' : l'.length ≤ 1000 := by have := (great_in hg').2.1; omega
  have HT := Lib.hid (wtwo_new w st v A sl.length cap m B l.length c m' B' l'.length c')
  have HK := Lib.hid (hK.below HT.out.1)
  have HL := Lib.hid (hL.below HT.out.1)
  have HL' := Lib.hid (hL'.below HT.out.1)
  have HI := Lib.hid (hI.below HT.out.1)
  have HG := Lib.hid (fun W hW => mgreat_any m B c l W hW hf)
  have HG' := Lib.hid (fun W hW => mgreat_any m' B' c' l' W hW hf')
  rw [hg] at HG
  rw [hg'] at HG'
  have HC := Lib.hid (fun W h0 h1 h2 => wenc_any st v A cap sl m B c l W h0 h1 h2 hn hl hf)
  have HC' := Lib.hid (fun W h0 h1 h2 => wenc_any st v A cap sl m' B' c' l' W h0 h1 h2 hn hl' hf')
  have HS := Lib.hid (fun W h1 h2 => mrsame_any m B c l m' B' c' l' W h1 h2 hl)
  have HE : Hid ((msgN st v sl m l).1 = 0 → (msgN st v sl m' l').1 = 0 → ((msgN st v sl m l).2 = 0 ∧ (msgN st v sl m' l').2 = 0) ∧ ((encS st v sl m l).extract 0 (min (encS st v sl m l).size (encS st v sl m' l').size) = (encS st v sl m' l').extract 0 (min (encS st v sl m l).size (encS st v sl m' l').size) ↔ sameM m l m' l' = true)) := fun e1 e2 => by
    have h1 := wmsgN_first e1
    have h2 := wmsgN_first e2
    exact ⟨⟨by rw [h1], by rw [h2]⟩, wapart_eq h1 h2⟩
  have HZ : Hid ((msgN st v sl m l).1 = 0 → (msgN st v sl m l).2 = 0) := fun e => by rw [wmsgN_first e]
  clear h hK hI hL hf hL' hf' hg hg' hl hl' hn
  generalize encS st v sl m l = x at *
  generalize encS st v sl m' l' = y at *
  generalize sameM m l m' l' = r at *
  generalize (msgN st v sl m l).1 = z1 at *
  generalize (msgN st v sl m l).2 = z1' at *
  generalize (msgN st v sl m' l').1 = z2 at *
  generalize (msgN st v sl m' l').2 = z2' at *
  generalize sl.length = len at *
  generalize l.length = n at *
  generalize l'.length = n' at *
  go_enter Tryd.func6, Tryd.ntmps6
  go_wp2_with fail
  generalize ((w.alloc (.cells #[.int .i64 st, .int .i64 v, .slice A len cap] 30)).alloc (.cells #[.string m, .slice B n c] 33)).alloc (.cells #[.string m', .slice B' n' c'] 33) = U at *
  refine (wawake_any _ HK.out).mono ?_
  rintro e x1 ⟨rfl, hb1⟩
  have HT1 := Lib.hid (HT.out.below hb1)
  have HK1 := Lib.hid (HK.out.below hb1)
  have HL1 := Lib.hid (HL.out.below hb1)
  have HL1' := Lib.hid (HL'.out.below hb1)
  have HI1 := Lib.hid (HI.out.below hb1)
  obtain ⟨b0, b1, b2⟩ := obj_cells3 HT1.out.2.1
  obtain ⟨b3, b4, _, _⟩ := obj_cells HT1.out.2.2.1
  clear hb1 HT HK HL HL' HI
  go_wp2_with fail
  refine (HG.out _ HL1.out).mono ?_
  rintro e x2 ⟨rfl, hb2⟩
  have HT2 := Lib.hid (HT1.out.below hb2)
  have HK2 := Lib.hid (HK1.out.below hb2)
  have HL2 := Lib.hid (HL1.out.below hb2)
  have HL2' := Lib.hid (HL1'.out.below hb2)
  have HI2 := Lib.hid (HI1.out.below hb2)
  clear hb2 b0 b1 b2 b3 b4 HT1 HK1 HL1 HI1 HL1'
  obtain ⟨b3, b4, _, _⟩ := obj_cells HT2.out.2.2.2
  go_wp2_with fail
  refine (HG'.out _ HL2'.out).mono ?_
  rintro e x3 ⟨rfl, hb3⟩
  have HT3 := Lib.hid (HT2.out.below hb3)
  have HK3 := Lib.hid (HK2.out.below hb3)
  have HL3 := Lib.hid (HL2.out.below hb3)
  have HL3' := Lib.hid (HL2'.out.below hb3)
  have HI3 := Lib.hid (HI2.out.below hb3)
  clear hb3 b3 b4 HT2 HK2 HL2 HI2 HL2'
  obtain ⟨b0, b1, b2⟩ := obj_cells3 HT3.out.2.1
  obtain ⟨b3, b4, _, _⟩ := obj_cells HT3.out.2.2.1
  go_wp2_with fail
  refine (HC.out _ HK3.out HI3.out HL3.out).mono ?_
  rintro e x4 ⟨rfl, hb4⟩
  have hal := hbt hb4 (below_al x4 (.cells #[.int .i64 z1, .int .i64 z1'] 37))
  have HT5 := Lib.hid (HT3.out.below hal)
  have HK5 := Lib.hid (HK3.out.below hal)
  have HL5 := Lib.hid (HL3.out.below hal)
  have HL5' := Lib.hid (HL3'.out.below hal)
  have HI5 := Lib.hid (HI3.out.below hal)
  have HP5 := Lib.hid (heap_alloc_new x4 (.cells #[.int .i64 z1, .int .i64 z1'] 37))
  clear hal b0 b1 b2 b3 b4
  obtain ⟨b0, b1, b2⟩ := obj_cells3 (HT3.out.below hb4).2.1
  obtain ⟨b3, b4, _, _⟩ := obj_cells (HT3.out.below hb4).2.2.2
  have hlt1 := obj_lt (HT3.out.below hb4).2.1
  have hlt2 := obj_lt (HT3.out.below hb4).2.2.2
  clear hb4 HT3 HK3 HL3 HI3 HL3'
  go_wp2_with fail
  generalize x4.alloc (.cells #[.int .i64 z1, .int .i64 z1'] 37) = X5 at *
  refine (HC'.out _ HK5.out HI5.out HL5'.out).mono ?_
  rintro e x6 ⟨rfl, hb6⟩
  have hal := hbt hb6 (below_al x6 (.cells #[.int .i64 z2, .int .i64 z2'] 37))
  have HT7 := Lib.hid (HT5.out.below hal)
  have HL7 := Lib.hid (HL5.out.below hal)
  have HL7' := Lib.hid (HL5'.out.below hal)
  obtain ⟨d0, d1, _, _⟩ := obj_cells (obj_below HP5.out hb6)
  have hlt3 := obj_lt (obj_below HP5.out hb6)
  clear hal hb6 HT5 HL5 HL5' HP5 b0 b1 b2 b3 b4 hlt1 hlt2
  by_cases hz1 : z1 = 0
  · by_cases hz2 : z2 = 0
    · subst hz1
      subst hz2
      obtain ⟨⟨rfl, rfl⟩, he⟩ := HE.out rfl rfl
      clear HE HZ
      obtain ⟨k, hk⟩ : ∃ k, k = min x.size y.size := ⟨_, rfl⟩
      have hmin : min (x.size : Int) (y.size : Int) = (k : Int) := by omega
      have hc1 := cut_str x k (by omega)
      have hc2 := cut_str y k (by omega)
      rw [← hk] at he
      have HH := Lib.hid (str_bool he)
      clear he hk
      generalize x.extract 0 k = X at *
      generalize y.extract 0 k = Y at *
      go_wp2_with fail
      generalize x6.alloc (.cells #[.int .i64 0, .int .i64 0] 37) = X7 at *
      (try rw [hmin])
      clear d0 d1 hlt3 hmin
      refine wp_region_noPanic ?_
      refine wp_region_held_drew (S := (fun u => Below X7.heap.size X7 u)) (by kernel_rfl) ((Below.refl _ _).drew) (fun hS => ?_)
      refine give_val (i := 0) (v := ?_) rfl (by kernel_rfl) (by kernel_rfl) (by kernel_rfl) (fun _ _ _ h => h) (by rfl) (fun u hu => ?_) hS ?_
      rotate_left
      · ((have hT := HT7.out.below hu; obtain ⟨b0, b1, _, _⟩ := obj_cells hT.2.2.1; obtain ⟨b3, b4, _, _⟩ := obj_cells hT.2.2.2; clear hT); go_simp; try (with_reducible rfl))
      try simp only [Act.put, List.setIfInBounds_toArray, List.set_cons_zero, List.set_cons_succ]
      refine give_val (i := 1) (v := ?_) rfl (by kernel_rfl) (by kernel_rfl) (by kernel_rfl) (fun _ _ _ h => h) (by rfl) (fun u hu => ?_) hS ?_
      rotate_left
      · ((have hT := HT7.out.below hu; obtain ⟨b0, b1, _, _⟩ := obj_cells hT.2.2.1; obtain ⟨b3, b4, _, _⟩ := obj_cells hT.2.2.2; clear hT); go_simp; try (with_reducible rfl))
      try simp only [Act.put, List.setIfInBounds_toArray, List.set_cons_zero, List.set_cons_succ]
      refine give_val (i := 2) (v := ?_) rfl (by kernel_rfl) (by kernel_rfl) (by kernel_rfl) (fun _ _ _ h => h) (by rfl) (fun u hu => ?_) hS ?_
      rotate_left
      · ((have hT := HT7.out.below hu; obtain ⟨b0, b1, _, _⟩ := obj_cells hT.2.2.1; obtain ⟨b3, b4, _, _⟩ := obj_cells hT.2.2.2; clear hT); go_simp; try (with_reducible rfl))
      try simp only [Act.put, List.setIfInBounds_toArray, List.set_cons_zero, List.set_cons_succ]
      refine give_val (i := 3) (v := ?_) rfl (by kernel_rfl) (by kernel_rfl) (by kernel_rfl) (fun _ _ _ h => h) (by rfl) (fun u hu => ?_) hS ?_
      rotate_left
      · ((have hT := HT7.out.below hu; obtain ⟨b0, b1, _, _⟩ := obj_cells hT.2.2.1; obtain ⟨b3, b4, _, _⟩ := obj_cells hT.2.2.2; clear hT); go_simp; try (with_reducible rfl))
      try simp only [Act.put, List.setIfInBounds_toArray, List.set_cons_zero, List.set_cons_succ]
      refine give_val (i := 4) (v := ?_) rfl (by kernel_rfl) (by kernel_rfl) (by kernel_rfl) (fun _ _ _ h => h) (by rfl) (fun u hu => ?_) hS ?_
      rotate_left
      · ((have hT := HT7.out.below hu; obtain ⟨b0, b1, _, _⟩ := obj_cells hT.2.2.1; obtain ⟨b3, b4, _, _⟩ := obj_cells hT.2.2.2; clear hT); go_simp; try (with_reducible rfl))
      try simp only [Act.put, List.setIfInBounds_toArray, List.set_cons_zero, List.set_cons_succ]
      refine give_val (i := 5) (v := ?_) rfl (by kernel_rfl) (by kernel_rfl) (by kernel_rfl) (fun _ _ _ h => h) (by rfl) (fun u hu => ?_) hS ?_
      rotate_left
      · ((have hT := HT7.out.below hu; obtain ⟨b0, b1, _, _⟩ := obj_cells hT.2.2.1; obtain ⟨b3, b4, _, _⟩ := obj_cells hT.2.2.2; clear hT); go_simp; try (with_reducible rfl))
      try simp only [Act.put, List.setIfInBounds_toArray, List.set_cons_zero, List.set_cons_succ]
      refine give_val (i := 6) (v := ?_) rfl (by kernel_rfl) (by kernel_rfl) (by kernel_rfl) (fun _ _ _ h => h) (by rfl) (fun u hu => ?_) hS ?_
      rotate_left
      · ((have hT := HT7.out.below hu; obtain ⟨b0, b1, _, _⟩ := obj_cells hT.2.2.1; obtain ⟨b3, b4, _, _⟩ := obj_cells hT.2.2.2; clear hT); go_simp; try (with_reducible rfl))
      try simp only [Act.put, List.setIfInBounds_toArray, List.set_cons_zero, List.set_cons_succ]
      refine give_val (i := 7) (v := ?_) rfl (by kernel_rfl) (by kernel_rfl) (by kernel_rfl) (fun _ _ _ h => h) (by rfl) (fun u hu => ?_) hS ?_
      rotate_left
      · ((have hT := HT7.out.below hu; obtain ⟨b0, b1, _, _⟩ := obj_cells hT.2.2.1; obtain ⟨b3, b4, _, _⟩ := obj_cells hT.2.2.2; clear hT); go_simp; try (with_reducible rfl))
      try simp only [Act.put, List.setIfInBounds_toArray, List.set_cons_zero, List.set_cons_succ]
      refine give_val (i := 8) (v := ?_) rfl (by kernel_rfl) (by kernel_rfl) (by kernel_rfl) (fun _ _ _ h => h) (by rfl) (fun u hu => ?_) hS ?_
      rotate_left
      · ((have hT := HT7.out.below hu; obtain ⟨b0, b1, _, _⟩ := obj_cells hT.2.2.1; obtain ⟨b3, b4, _, _⟩ := obj_cells hT.2.2.2; clear hT); go_simp; try (with_reducible rfl))
      try simp only [Act.put, List.setIfInBounds_toArray, List.set_cons_zero, List.set_cons_succ]
      refine only_call (i := 9) 21 #[.agg #[.string m, .slice B n c], .agg #[.string m', .slice B' n' c']] rfl (by kernel_rfl) (by rfl) ((HS.out _ (HL7.out.below hS) (HL7'.out.below hS)).mono fun e w' he => ⟨he.1, hbt hS he.2⟩) ?_ ?_
      · (go_simp; try (with_reducible rfl))
      clear hS
      intro w9 hS
      try simp only [Act.put, List.setIfInBounds_toArray, List.set_cons_zero, List.set_cons_succ]
      refine give_val (i := 10) (v := ?_) rfl (by kernel_rfl) (by kernel_rfl) (by kernel_rfl) (fun _ _ _ h => h) (by rfl) (fun u hu => ?_) hS ?_
      rotate_left
      · ((have hT := HT7.out.below hu; obtain ⟨b0, b1, _, _⟩ := obj_cells hT.2.2.1; obtain ⟨b3, b4, _, _⟩ := obj_cells hT.2.2.2; clear hT); go_simp; try (with_reducible rfl))
      try simp only [Act.put, List.setIfInBounds_toArray, List.set_cons_zero, List.set_cons_succ]
      refine give_val (i := 11) (v := ?_) rfl (by kernel_rfl) (by kernel_rfl) (by kernel_rfl) (fun _ _ _ h => h) (by rfl) (fun u hu => ?_) hS ?_
      rotate_left
      · ((have hT := HT7.out.below hu; obtain ⟨b0, b1, _, _⟩ := obj_cells hT.2.2.1; obtain ⟨b3, b4, _, _⟩ := obj_cells hT.2.2.2; clear hT); go_simp; try (with_reducible rfl))
      try simp only [Act.put, List.setIfInBounds_toArray, List.set_cons_zero, List.set_cons_succ]
      refine wpAnyH_done (by kernel_rfl) (NoPanic.normal ?_) _
      go_wp2
      go_ret
      exact ⟨by have := HH.out; simp_all, hbt HT7.out.1 hS⟩
    · subst hz1
      obtain rfl := HZ.out rfl
      have tz : (z2 == 0) = false := by simpa using hz2
      clear HE HZ hz2
      go_wp2
      go_ret
      exact ⟨rfl, HT7.out.1⟩
  · have tz : (z1 == 0) = false := by simpa using hz1
    clear HE HZ hz1
    go_wp2
    go_ret
    exact ⟨rfl, HT7.out.1⟩

theorem wapart_walk (st v : Int) (A : Option Addr) (cap : Nat) (sl : List Sp) (m : ByteArray) (B : Option Addr) (c : Nat) (l : List Item) (m' : ByteArray) (B' : Option Addr) (c' : Nat) (l' : List Item) (w : World) (hK : Kinds w) (hI : Spl w A sl) (_h1 : sl.length ≤ maxLen) (_hm : m.size ≤ maxLen) (hL : Tlvs w B l) (_h2 : l.length ≤ maxLen) (hf : ∀ x ∈ l, x.2.size ≤ maxLen) (_hm' : m'.size ≤ maxLen) (hL' : Tlvs w B' l') (_h3 : l'.length ≤ maxLen) (hf' : ∀ x ∈ l', x.2.size ≤ maxLen) :
    Calls Tryd.prog 6 #[.agg #[.int .i64 st, .int .i64 v, .slice A sl.length cap], .agg #[.string m, .slice B l.length c], .agg #[.string m', .slice B' l'.length c']] w fun e w' => e = .returned (.bool true) ∧ Below w.heap.size w w' := by
  by_cases h : 200 < sl.length
  · exact wapart_long st v A _ cap m B _ c m' B' _ c' w hK h
  · cases hg : greatM m l
    · cases hg' : greatM m' l'
      · exact wapart_main st v A cap sl m B c l m' B' c' l' w hK hI hL hf hL' hf' h hg hg'
      · exact wapart_great st v A _ cap m B c l m' B' c' l' w hK hL hf hL' hf' h (.inr ⟨hg, hg'⟩)
    · exact wapart_great st v A _ cap m B c l m' B' c' l' w hK hL hf hL' hf' h (.inl hg)

end Go.Proofs.YtckapcafpnlnoaaDoor
