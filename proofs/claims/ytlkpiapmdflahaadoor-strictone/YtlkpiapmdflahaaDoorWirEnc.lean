/-
  What Encode answers: for every schema and message, in every world that holds the table of kinds.
-/
import Derived.Test.YtlkpiapmdflahaaDoorWirSmall
import Derived.Test.YtlkpiapmdflahaaDoorMsgCut
import Derived.Test.YtlkpiapmdflahaaDoorPackBmp
import Derived.Test.YtlkpiapmdflahaaDoorPackBase
namespace Go.Proofs.YtlkpiapmdflahaaDoor
open Go.RowKit

theorem wmsgL_first (sl : List Sp) : ∀ (l : List Item) (last : Int), (msgL sl last l).1 = 0 → msgL sl last l = (0, 0)
  | [], _, _ => rfl
  | x :: r, last, h => by
    by_cases hx : fldE sl last x = 0
    · rw [msgL_ok hx] at h ⊢
      exact wmsgL_first sl r x.1 h
    · rw [msgL_bad hx] at h
      exact absurd h hx
theorem wmsgN_first {st v : Int} {sl : List Sp} {m : ByteArray} {l : List Item} (h : (msgN st v sl m l).1 = 0) : msgN st v sl m l = (0, 0) := by
  by_cases h1 : (schN st v sl).1 = 0
  · by_cases h2 : mtiV m v = true
    · rw [msgN_list h1 h2] at h ⊢
      exact wmsgL_first sl l 0 h
    · rw [msgN_mti h1 (by simpa using h2)] at h
      exact absurd h (by decide)
  · rw [msgN_arg h1] at h
    exact absurd h (by decide)

theorem results_tmp_cell {P : Program} {fn : Func} {u p : Tmp} {ty : TypeId} (h : fn.results = #[.tmp u, .cell p ty]) (tmps : Array Value) (w : World) (g : Nat) (t : TypeId) (cs : Array Value) (fr : Nat × Nat) (d : TypeDesc)
    (hp : tmps.getD p undef = .pointer (some ⟨g, 0, none⟩)) (hg : w.heap[g]? = some (.cells cs t fr))
    (hu : P.underlying ty = some d) (hd : (match d with | .struct _ | .array _ _ => true | _ => false) = true) (hi : (P.info? ty).map (·.size) = some cs.size) :
    (results fn tmps).run P w = .ok (.tuple #[tmps.getD u undef, .agg cs]) w := by
  have hp' : tmps[p]?.getD undef = .pointer (some ⟨g, 0, none⟩) := by simpa using hp
  simp [results, h, hp', asAddr, run_loadVar_row w g t ty cs fr d hg hu hd hi]

/-- A fault in a block, room for another in a second: what a region keeps. -/
def FaultS (w : World) (p q : Nat) (z z' : Int) (u : World) : Prop := Below w.heap.size w u ∧ u.heap[p]? = some (.cells #[.int .i64 z, .int .i64 z'] 31) ∧ ∃ a b, u.heap[q]? = some (.cells #[a, b] 31)

set_option maxRecDepth 100000 in
set_option maxHeartbeats 3200000 in
theorem wenc_no (st v : Int) (A : Option Addr) (ca : Nat) (sl : List Sp) (m : ByteArray) (B : Option Addr) (cb : Nat) (l : List Item) (w : World) (hK : Kinds w) (hI : Spl w A sl) (hB : Tlvs w B l) (hn : sl.length ≤ 1000) (hl : l.length ≤ 1000) (hs : ∀ x ∈ l, x.2.size ≤ maxLen) (h : (msgN st v sl m l).1 ≠ 0) :
    Calls Tryd.prog 14 #[.agg #[.int .i64 st, .int .i64 v, .slice A sl.length ca], .agg #[.string m, .slice B l.length cb]] w fun e w' => e = .returned (.tuple #[.string ⟨#[]⟩, .agg #[.int .i64 (msgN st v sl m l).1, .int .i64 (msgN st v sl m l).2]]) ∧ Below w.heap.size w w' := by
  have HC := Lib.hid (fun W h0 h1 h2 => mcheck_any st v A ca sl m B cb l W h0 h1 h2 hn hl hs)
  have HT := Lib.hid (trio_new w st v A sl.length ca m B l.length cb)
  have HK := Lib.hid (hK.below HT.out.1)
  have HI := Lib.hid (hI.below HT.out.1)
  have HL := Lib.hid (hB.below HT.out.1)
  clear hK hI hB hs hn hl
  generalize (msgN st v sl m l).1 = z at *
  generalize (msgN st v sl m l).2 = z' at *
  have tz : (z == 0) = false := by simpa using h
  clear h
  generalize sl.length = len at *
  generalize l.length = n at *
  go_enter Tryd.func14, Tryd.ntmps14
  go_wp2_with fail
  generalize ((w.alloc (.cells #[.int .i64 st, .int .i64 v, .slice A len ca] 24)).alloc (.cells #[.string m, .slice B n cb] 28)).alloc (.cells #[.int .i64 0, .int .i64 0] 31) = U at *
  refine (HC.out _ HK.out HI.out HL.out).mono ?_
  rintro e w1 ⟨rfl, hb1⟩
  have HT1 := Lib.hid (HT.out.below hb1)
  have hlt := obj_lt HT1.out.2.2.2
  have HS0 : Hid (FaultS w w1.heap.size (w.heap.size + 1 + 1) z z' (w1.alloc (.cells #[.int .i64 z, .int .i64 z'] 31))) := ⟨hbt HT1.out.1 (below_al _ _), heap_alloc_new _ _, _, _, obj_below HT1.out.2.2.2 (below_al _ _)⟩
  have HNE : Hid (w1.heap.size ≠ w.heap.size + 1 + 1) := by show _ ≠ _; omega
  clear hb1 hlt
  go_wp2_with fail
  generalize w1.alloc (.cells #[.int .i64 z, .int .i64 z'] 31) = W1 at *
  refine wp_region_noPanic ?_
  refine wp_region_held_drew (S := (FaultS w w1.heap.size (w.heap.size + 1 + 1) z z')) (by kernel_rfl) (⟨HS0.out.1.drew, HS0.out.2⟩) (fun hS => ?_)
  refine give_val (i := 0) (v := ?_) rfl (by kernel_rfl) (by kernel_rfl) (by kernel_rfl) (fun _ _ _ h => h) (by rfl) (fun u hu => ?_) hS ?_
  rotate_left
  · ((obtain ⟨_, hu2, _⟩ := hu; obtain ⟨c0, c1, _, _⟩ := obj_cells hu2; clear hu2); go_simp; try (with_reducible rfl))
  try simp only [Act.put, List.setIfInBounds_toArray, List.set_cons_zero, List.set_cons_succ]
  refine give_val (i := 1) (v := ?_) rfl (by kernel_rfl) (by kernel_rfl) (by kernel_rfl) (fun _ _ _ h => h) (by rfl) (fun u hu => ?_) hS ?_
  rotate_left
  · ((obtain ⟨_, hu2, _⟩ := hu; obtain ⟨c0, c1, _, _⟩ := obj_cells hu2; clear hu2); go_simp; try (with_reducible rfl))
  try simp only [Act.put, List.setIfInBounds_toArray, List.set_cons_zero, List.set_cons_succ]
  refine only (i := 2) rfl (by kernel_rfl) (by rfl) (fun K hK => ?_)
  obtain ⟨hS1, hS2, a1, a2, hS3⟩ := HS0.out
  obtain ⟨c0, c1, f0, f1⟩ := obj_cells hS3
  go_simp
  refine hK.out _ _ (show FaultS w w1.heap.size (w.heap.size + 1 + 1) z z' ((W1.setCell ⟨w.heap.size + 1 + 1, 0, none⟩ (.int .i64 z)).setCell ⟨w.heap.size + 1 + 1, 1, none⟩ (.int .i64 z')).drew from ⟨(below_set2 hS1 (by omega) _ _).drew, obj_set_other hS2 HNE.out _ _, _, _, obj_set2 hS3 _ _⟩) ?_
  clear hK
  try simp only [Act.put, List.setIfInBounds_toArray, List.set_cons_zero, List.set_cons_succ]
  refine wpAnyH_done (by kernel_rfl) (NoPanic.normal ?_) _
  have HR := Lib.hid (obj_set2 hS3 (.int .i64 z) (.int .i64 z'))
  have HB := Lib.hid (below_set2 (p := w.heap.size + 1 + 1) hS1 (by omega) (.int .i64 z) (.int .i64 z'))
  clear hS hS1 hS2 hS3 c0 c1 f0 f1
  generalize (World.setCell _ ⟨w.heap.size + 1 + 1, 0, none⟩ (.int .i64 z)).setCell ⟨w.heap.size + 1 + 1, 1, none⟩ (.int .i64 z') = w4 at *
  go_wp2
  refine bodyPost_ret (results_tmp_cell rfl _ _ (w.heap.size + 1 + 1) _ _ _ _ rfl HR.out Tryd.underlying31 rfl (by kernel_rfl)) rfl ?_
  exact ⟨rfl, HB.out.drew⟩

theorem others_obj {w w' : World} {B g : Nat} {cs : Array Value} {t : TypeId} (h : Lib.OthersKept 5 (some B) w w') (hg : w.heap[g]? = some (.cells cs t)) (hne : g ≠ B) (ht : t ≠ 5) : w'.heap[g]? = some (.cells cs t) :=
  h g _ hg (fun e => hne (Option.some.inj e)) (fun c fz e => ht (by injection e))

set_option maxRecDepth 100000 in
set_option maxHeartbeats 12800000 in
theorem wenc_yes (k : Nat) (v : Int) (A : Option Addr) (ca : Nat) (sl : List Sp) (m : ByteArray) (B : Option Addr) (cb : Nat) (l : List Item) (w : World) (hK : Kinds w) (hI : Spl w A sl) (hB : Tlvs w B l) (hn : sl.length ≤ 1000) (hl : l.length ≤ 1000) (hs : ∀ x ∈ l, x.2.size ≤ maxLen) (hk : k = 1 ∨ k = 2) (h : msgN (k : Int) v sl m l = (0, 0)) :
    Calls Tryd.prog 14 #[.agg #[.int .i64 (k : Int), .int .i64 v, .slice A sl.length ca], .agg #[.string m, .slice B l.length cb]] w fun e w' => e = .returned (.tuple #[.string ⟨(encL k sl m l).toArray⟩, .agg #[.int .i64 0, .int .i64 0]]) ∧ Below w.heap.size w w' := by
  have hall := valid_all h
  have hone := (tags_one hall.2).1
  have HC := Lib.hid (fun W h0 h1 h2 => mcheck_any (k : Int) v A ca sl m B cb l W h0 h1 h2 hn hl hs)
  rw [h] at HC
  dsimp only at HC
  have HX := Lib.hid (fun W => wtype_yes k m W hall.1 hk)
  have HS := Lib.hid (fun W hW => mset_any m B cb l W hW hl)
  have HP : Hid (∀ W, Calls Tryd.prog 28 #[.int .i64 (k : Int), setV (ofH (tagsOf l)) (ofL (tagsOf l))] W fun e w' => e = .returned (.tuple #[.string ⟨(setL k l).toArray⟩, .int .i64 0]) ∧ Below W.heap.size W w') := fun W => put_ok k _ _ W hk (of_lt _).1 (of_lt _).2 hone
  have HAD := Lib.hid (fun Bd W => wadder_any (k : Int) v A sl.length ca Bd W)
  have HADD : Hid (∀ j a s gs gp Bd acc W, j < l.length → itemAt l j = (a, s) → Kinds W → Spl W A sl → Box W gs (k : Int) v A sl.length ca → W.heap[gp]? = some (.cells #[.pointer (some ⟨Bd, 0, none⟩)] 73) → Built W Bd acc → acc.length ≤ 90000000 →
      Calls Tryd.prog 62 #[.agg #[.int .i64 a, .string s], .pointer (some ⟨gs, 0, none⟩), .pointer (some ⟨gp, 0, none⟩)] W fun e w' => e = .returned (.tuple #[]) ∧ Built w' Bd (acc ++ cellL k sl (itemAt l j)) ∧ Below Bd W w' ∧ Lib.OthersKept 5 (some Bd) W w') := fun j a s gs gp Bd acc W hj hx h0 h1 h2 h3 h4 h5 => by
    have ho := hall.2 _ (List.getElem_mem hj)
    rw [← itemAt_get hj, hx] at ho
    rw [hx]
    exact wadd_any k v A ca sl gs gp Bd acc a s W hk h0 h1 hn h2 h3 h4 ho h5
  have HLN : Hid (∀ j, (typL k m.data.toList ++ (setL k l ++ fldsL k sl (l.take j))).length ≤ 3000000) := fun j => by
    have h1 := typ_len (st := k) hall.1
    have h2 := wset_len k l
    have h3 := flds_len (st := k) hall.2
    have h4 := flds_part k sl l j
    rw [List.length_append, List.length_append]
    split at h1 <;> omega
  have HE : Hid (encL k sl m l = typL k m.data.toList ++ (setL k l ++ fldsL k sl l)) := rfl
  have HX1 : Hid ((⟨(typL k m.data.toList).toArray⟩ : ByteArray).data.toList = typL k m.data.toList) := mk_list _
  have HX2 : Hid ((⟨(setL k l).toArray⟩ : ByteArray).data.toList = setL k l) := mk_list _
  have HZ1 : Hid ((⟨(typL k m.data.toList).toArray⟩ : ByteArray).size ≤ 4) := by
    show _ ≤ _
    rw [mk_size]
    have h1 := typ_len (st := k) hall.1
    split at h1 <;> omega
  have HZ2 : Hid ((⟨(setL k l).toArray⟩ : ByteArray).size ≤ 32) := by
    show _ ≤ _
    rw [mk_size]; exact wset_len k l
  have HFS : Hid (∀ j, j < l.length → fldsL k sl (l.take (j + 1)) = fldsL k sl (l.take j) ++ cellL k sl (itemAt l j)) := fun j hj => flds_step k sl hj
  have HT := Lib.hid (trio_new w (k : Int) v A sl.length ca m B l.length cb)
  have HK := Lib.hid (hK.below HT.out.1)
  have HI := Lib.hid (hI.below HT.out.1)
  have HL := Lib.hid (hB.below HT.out.1)
  clear hK hI hB hs hn hall hone h hk
  unfold setV at HS HP
  generalize (ofH (tagsOf l)) = sh at *
  generalize (ofL (tagsOf l)) = so at *
  generalize typL k m.data.toList = ty at *
  generalize setL k l = se at *
  generalize (⟨ty.toArray⟩ : ByteArray) = x at *
  generalize (⟨se.toArray⟩ : ByteArray) = y at *
  generalize sl.length = len at *
  generalize hlen : l.length = n at *
  have HLEN := Lib.hid hlen
  clear hlen
  generalize encL k sl m l = E at *
  go_enter Tryd.func14, Tryd.ntmps14
  go_wp2_with fail
  generalize ((w.alloc (.cells #[.int .i64 (k : Int), .int .i64 v, .slice A len ca] 24)).alloc (.cells #[.string m, .slice B n cb] 28)).alloc (.cells #[.int .i64 0, .int .i64 0] 31) = U at *
  refine (HC.out _ HK.out HI.out HL.out).mono ?_
  rintro e w1 ⟨rfl, hb1⟩
  have hb1' := hbt hb1 (below_al w1 (.cells #[.int .i64 0, .int .i64 0] 31))
  have HT1 := Lib.hid (HT.out.below hb1')
  have HK1 := Lib.hid (HK.out.below hb1')
  have HI1 := Lib.hid (HI.out.below hb1')
  have HL1 := Lib.hid (HL.out.below hb1')
  obtain ⟨b0, b1, b2⟩ := obj_cells3 (HT.out.below hb1).2.1
  obtain ⟨b3, b4, _, _⟩ := obj_cells (HT.out.below hb1).2.2.1
  have hz0 := obj_lt (HT.out.below hb1).2.1
  have hz1 := obj_lt (HT.out.below hb1).2.2.1
  clear hb1 hb1' HT HK HI HL
  go_wp2_with fail
  generalize w1.alloc (.cells #[.int .i64 0, .int .i64 0] 31) = W1 at *
  refine (HX.out _).mono ?_
  rintro e w2 ⟨rfl, hb2⟩
  have HT2 := Lib.hid (HT1.out.below hb2)
  have HK2 := Lib.hid (HK1.out.below hb2)
  have HI2 := Lib.hid (HI1.out.below hb2)
  have HL2 := Lib.hid (HL1.out.below hb2)
  clear hb2 HT1 HK1 HI1 HL1 b0 b1 b2 b3 b4 hz0 hz1
  go_wp2_with fail
  refine wp_region_noPanic ?_
  refine wp_region_held_drew (S := (fun u => Below w2.heap.size w2 u)) (by kernel_rfl) ((Below.refl _ _).drew) (fun hS => ?_)
  refine give_val (i := 0) (v := ?_) rfl (by kernel_rfl) (by kernel_rfl) (by kernel_rfl) (fun _ _ _ h => h) (by rfl) (fun u hu => ?_) hS ?_
  rotate_left
  · ((have hT := HT2.out.below hu; obtain ⟨b0, b1, b2⟩ := obj_cells3 hT.2.1; obtain ⟨b3, b4, _, _⟩ := obj_cells hT.2.2.1; clear hT); go_simp; try (with_reducible rfl))
  try simp only [Act.put, List.setIfInBounds_toArray, List.set_cons_zero, List.set_cons_succ]
  refine give_val (i := 1) (v := ?_) rfl (by kernel_rfl) (by kernel_rfl) (by kernel_rfl) (fun _ _ _ h => h) (by rfl) (fun u hu => ?_) hS ?_
  rotate_left
  · ((have hT := HT2.out.below hu; obtain ⟨b0, b1, b2⟩ := obj_cells3 hT.2.1; obtain ⟨b3, b4, _, _⟩ := obj_cells hT.2.2.1; clear hT); go_simp; try (with_reducible rfl))
  try simp only [Act.put, List.setIfInBounds_toArray, List.set_cons_zero, List.set_cons_succ]
  refine give_val (i := 2) (v := ?_) rfl (by kernel_rfl) (by kernel_rfl) (by kernel_rfl) (fun _ _ _ h => h) (by rfl) (fun u hu => ?_) hS ?_
  rotate_left
  · ((have hT := HT2.out.below hu; obtain ⟨b0, b1, b2⟩ := obj_cells3 hT.2.1; obtain ⟨b3, b4, _, _⟩ := obj_cells hT.2.2.1; clear hT); go_simp; try (with_reducible rfl))
  try simp only [Act.put, List.setIfInBounds_toArray, List.set_cons_zero, List.set_cons_succ]
  refine only_call (i := 3) 29 #[.agg #[.string m, .slice B n cb]] rfl (by kernel_rfl) (by rfl) ((HS.out _ (HL2.out.below hS)).mono fun e w' he => ⟨he.1, hbt hS he.2⟩) ?_ ?_
  · (go_simp; try (with_reducible rfl))
  clear hS
  intro w3 hS
  try simp only [Act.put, List.setIfInBounds_toArray, List.set_cons_zero, List.set_cons_succ]
  refine only_call (i := 4) 28 #[.int .i64 (k : Int), .agg #[.int .u64 (sh : Int), .int .u64 (so : Int)]] rfl (by kernel_rfl) (by rfl) ((HP.out _).mono fun e w' he => ⟨he.1, hbt hS he.2⟩) ?_ ?_
  · (go_simp; try (with_reducible rfl))
  clear hS
  intro w4 hS
  try simp only [Act.put, List.setIfInBounds_toArray, List.set_cons_zero, List.set_cons_succ]
  refine give_val (i := 5) (v := ?_) rfl (by kernel_rfl) (by kernel_rfl) (by kernel_rfl) (fun _ _ _ h => h) (by rfl) (fun u hu => ?_) hS ?_
  rotate_left
  · ((have hT := HT2.out.below hu; obtain ⟨b0, b1, b2⟩ := obj_cells3 hT.2.1; obtain ⟨b3, b4, _, _⟩ := obj_cells hT.2.2.1; clear hT); go_simp; try (with_reducible rfl))
  try simp only [Act.put, List.setIfInBounds_toArray, List.set_cons_zero, List.set_cons_succ]
  refine give_val (i := 6) (v := ?_) rfl (by kernel_rfl) (by kernel_rfl) (by kernel_rfl) (fun _ _ _ h => h) (by rfl) (fun u hu => ?_) hS ?_
  rotate_left
  · ((have hT := HT2.out.below hu; obtain ⟨b0, b1, b2⟩ := obj_cells3 hT.2.1; obtain ⟨b3, b4, _, _⟩ := obj_cells hT.2.2.1; clear hT); go_simp; try (with_reducible rfl))
  try simp only [Act.put, List.setIfInBounds_toArray, List.set_cons_zero, List.set_cons_succ]
  refine give_val (i := 7) (v := ?_) rfl (by kernel_rfl) (by kernel_rfl) (by kernel_rfl) (fun _ _ _ h => h) (by rfl) (fun u hu => ?_) hS ?_
  rotate_left
  · ((have hT := HT2.out.below hu; obtain ⟨b0, b1, b2⟩ := obj_cells3 hT.2.1; obtain ⟨b3, b4, _, _⟩ := obj_cells hT.2.2.1; clear hT); go_simp; try (with_reducible rfl))
  try simp only [Act.put, List.setIfInBounds_toArray, List.set_cons_zero, List.set_cons_succ]
  refine give_val (i := 8) (v := ?_) rfl (by kernel_rfl) (by kernel_rfl) (by kernel_rfl) (fun _ _ _ h => h) (by rfl) (fun u hu => ?_) hS ?_
  rotate_left
  · ((have hT := HT2.out.below hu; obtain ⟨b0, b1, b2⟩ := obj_cells3 hT.2.1; obtain ⟨b3, b4, _, _⟩ := obj_cells hT.2.2.1; clear hT); go_simp; try (with_reducible rfl))
  try simp only [Act.put, List.setIfInBounds_toArray, List.set_cons_zero, List.set_cons_succ]
  refine give_val (i := 9) (v := ?_) rfl (by kernel_rfl) (by kernel_rfl) (by kernel_rfl) (fun _ _ _ h => h) (by rfl) (fun u hu => ?_) hS ?_
  rotate_left
  · ((have hT := HT2.out.below hu; obtain ⟨b0, b1, b2⟩ := obj_cells3 hT.2.1; obtain ⟨b3, b4, _, _⟩ := obj_cells hT.2.2.1; clear hT); go_simp; try (with_reducible rfl))
  try simp only [Act.put, List.setIfInBounds_toArray, List.set_cons_zero, List.set_cons_succ]
  refine wpAnyH_done (by kernel_rfl) (NoPanic.normal ?_) _
  have HT3 := Lib.hid (HT2.out.below hS)
  have HK3 := Lib.hid (HK2.out.below hS)
  have HI3 := Lib.hid (HI2.out.below hS)
  have HL3 := Lib.hid (HL2.out.below hS)
  clear hS HT2 HK2 HI2 HL2
  rename World => w3
  go_wp2_with fail
  refine (built_write w3.heap.size [] x _ (built_new w3) (by have := HZ1.out; simp; omega)).mono ?_
  rintro e w5 ⟨rfl, hu5, hb5, hk5⟩
  have HB5 := Lib.hid ((below_al w3 (.cells #[.pointer none, .slice none 0 0] 76)).trans hb5)
  have HU5 := Lib.hid hu5
  clear hu5 hb5 hk5
  go_wp2_with fail
  refine (built_write w3.heap.size _ y _ HU5.out (by have := HZ2.out; have := HZ1.out; have e1 := congrArg List.length HX1.out; rw [list_size] at e1; simp; omega)).mono ?_
  rintro e w6 ⟨rfl, hu6, hb6, hk6⟩
  have HB6 := Lib.hid (HB5.out.trans hb6)
  have HU6 := Lib.hid hu6
  clear hu6 hb6 hk6 HB5 HU5
  obtain ⟨b0, b1, b2⟩ := obj_cells3 (HT3.out.below HB6.out).2.1
  go_wp2_with fail
  refine (HAD.out _ _).mono ?_
  rintro e w7 ⟨rfl, hw7⟩
  have HB67 : Hid (Below w6.heap.size w6 w7) := by rw [hw7]; exact hbt (below_al _ _) (below_al _ _)
  have HGS : Hid (Box w7 w6.heap.size (k : Int) v A len ca) := by rw [hw7]; exact (box_new _ _ _ _ _ _).below (below_al _ _)
  have HGP : Hid (w7.heap[w6.heap.size + 1]? = some (.cells #[.pointer (some ⟨w3.heap.size, 0, none⟩)] 73)) := by rw [hw7]; exact heap_al _ _ _ (by simp)
  have HU7 := Lib.hid (HU6.out.below HB67.out)
  have HB7 := Lib.hid (HB6.out.trans (HB67.out.mono (Nat.le_trans (Nat.le_of_lt HU6.out.lt) (Nat.le_refl _))))
  have HT7 := Lib.hid (HT3.out.below HB7.out)
  have HNB : Hid (w6.heap.size ≠ w3.heap.size ∧ w6.heap.size + 1 ≠ w3.heap.size) := by have := HU6.out.lt; exact ⟨by omega, by omega⟩
  obtain ⟨b3, b4, _, _⟩ := obj_cells HT7.out.2.2.1
  clear hw7 HU6 HB6 HB67 b0 b1 b2
  generalize w6.heap.size = gs at *
  go_wp2_with fail
  clear b3 b4
  go_loopw [47] (fun i wr => ∃ j : Nat, j ≤ n ∧ i = .int .i64 (j : Int) ∧ Built wr w3.heap.size (ty ++ (se ++ fldsL k sl (l.take j))) ∧ Below w3.heap.size w3 wr ∧ Lib.OthersKept 5 (some w3.heap.size) w7 wr) (fun i _ => n - (intOf i).toNat)
  case atStart => exact ⟨0, Nat.zero_le _, rfl, by have h := HU7.out; rw [HX1.out, HX2.out] at h; simpa [fldsL] using h, HB7.out, Lib.OthersKept.refl _ _ _⟩
  case round =>
    obtain ⟨j, hj, rfl, hu, hb, hok⟩ := hrel
    have HU := Lib.hid hu
    have HB := Lib.hid hb
    have HO := Lib.hid hok
    clear hu hb hok
    by_cases hlt : j < n
    · have hjl : j < l.length := by have := HLEN.out; omega
      obtain ⟨a, t, s, rfl, hx, c0, c1⟩ := (HL3.out.below HB.out).at_ hjl
      have HBA := Lib.hid (below_al wr (.cells #[.int .i64 t, .string s] 42))
      have HQ := Lib.hid (HADD.out j t s gs (gs + 1) w3.heap.size (ty ++ (se ++ fldsL k sl (l.take j))) (wr.alloc (.cells #[.int .i64 t, .string s] 42)) hlt hx (HK3.out.below (HB.out.trans (HBA.out.mono (Nat.le_of_lt HU.out.lt)))) (HI3.out.below (HB.out.trans (HBA.out.mono (Nat.le_of_lt HU.out.lt)))) (Box.below (others_obj HO.out HGS.out HNB.out.1 (by decide)) HBA.out) (obj_below (others_obj HO.out HGP.out HNB.out.2 (by decide)) HBA.out) (HU.out.below HBA.out) (by have := HLN.out j; omega))
      have HST := Lib.hid (HFS.out j hlt)
      have HBB := Lib.hid (HB.out.trans (HBA.out.mono (Nat.le_of_lt HU.out.lt)))
      have HOO := Lib.hid (HO.out.below HBA.out)
      clear hjl hx
      go_wp2_with (go_at_call 62; refine HQ.out.mono ?_; rintro e w8 ⟨rfl, hu8, hb8, hk8⟩)
      have HU8 := Lib.hid hu8
      have HB8 := Lib.hid (HBB.out.trans hb8)
      have HO8 := Lib.hid (HOO.out.trans hk8)
      clear hu8 hb8 hk8 c0 c1
      go_wp2
      go_roundw
      case rel => exact ⟨j + 1, by omega, by go_num, by rw [HST.out]; have h := HU8.out; simpa only [List.append_assoc] using h, HB8.out, HO8.out⟩
      case measure => simp [intOf]; omega
    · have he : l.take j = l := items_all (by have := HLEN.out; omega)
      rw [he, ← HE.out] at HU
      clear he
      go_wp2_with fail
      refine (built_string w3.heap.size E _ HU.out).mono ?_
      rintro e w9 ⟨rfl, hb9⟩
      have HT9 := Lib.hid (HT3.out.below (HB.out.trans hb9))
      obtain ⟨c0, c1, f0, f1⟩ := obj_cells HT9.out.2.2.2
      clear hb9
      go_wp2
      refine bodyPost_ret (results_tmp_cell rfl _ _ (w.heap.size + 2) _ _ _ _ rfl (obj_set2 HT9.out.2.2.2 _ _) Tryd.underlying31 rfl (by kernel_rfl)) rfl ?_
      exact ⟨rfl, below_set2 HT9.out.1 (by omega) _ _⟩

/-- All in one: what Encode answers. -/
theorem wenc_any (st v : Int) (A : Option Addr) (ca : Nat) (sl : List Sp) (m : ByteArray) (B : Option Addr) (cb : Nat) (l : List Item) (w : World) (hK : Kinds w) (hI : Spl w A sl) (hB : Tlvs w B l) (hn : sl.length ≤ 1000) (hl : l.length ≤ 1000) (hs : ∀ x ∈ l, x.2.size ≤ maxLen) :
    Calls Tryd.prog 14 #[.agg #[.int .i64 st, .int .i64 v, .slice A sl.length ca], .agg #[.string m, .slice B l.length cb]] w fun e w' => e = .returned (.tuple #[.string (encS st v sl m l), .agg #[.int .i64 (msgN st v sl m l).1, .int .i64 (msgN st v sl m l).2]]) ∧ Below w.heap.size w w' := by
  by_cases h : (msgN st v sl m l).1 = 0
  · have h1 := wmsgN_first h
    obtain ⟨k, rfl, hk⟩ := valid_style h1
    rw [encS_yes h1, h1]
    exact wenc_yes k v A ca sl m B cb l w hK hI hB hn hl hs hk h1
  · rw [encS_no (fun e => h (by rw [e]))]
    exact wenc_no st v A ca sl m B cb l w hK hI hB hn hl hs h

end Go.Proofs.YtlkpiapmdflahaaDoor
