/-
  What With answers: for every message of up to 1000 fields, in every world. ('copy' of structs of two cells, into a row of the call's own.)
-/
import Derived.Test.YthheflgfbdcnlaaDoorMsgRead
import Derived.Test.YthheflgfbdcnlaaDoorMsgCut
import Derived.Laws.CopyOwn
import Derived.OwnWalk
namespace Go.Proofs.YthheflgfbdcnlaaDoor
open Go.RowKit

theorem run_copy_two (w : World) (ty : TypeId) (g o dLen dCap : Nat) (a : Addr) (sLen sCap : Nat) (cur : Array Value) (t : TypeId) (cs : List Value) (n : Nat)
    (hg : w.heap[g]? = some (.cells cur t (0, 0))) (hn : Nat.min sLen dLen = n) (hcs : cs.length = n * 2)
    (hsrc : ∀ j v, cs[j]? = some v → w.cell? (a.add j) = some v) (hfit : o + cs.length ≤ cur.size) (h1 : ∀ v ∈ cs, v.oneCell' = true) :
    (Builtin.copy_ #[30, 30] ty #[.slice (some ⟨g, o, none⟩) dLen dCap, .slice (some a) sLen sCap]).run Tryd.prog w =
      .ok (goInt n) (w.setRow g (cur.toList.take o ++ cs ++ cur.toList.drop (o + cs.length)).toArray) := by
  have hl := run_loadCells_list (P := Tryd.prog) w a cs hsrc
  have hst := run_storeCells_at Tryd.prog g o t cs 0 cur w hg (by simpa using hfit) h1
  obtain ⟨i0, hi, hz0, hz1, hz2⟩ := info_parts Tryd.infoVal
  rw [hcs] at hl
  simp [Builtin.copy_, run_underlying Tryd.underlying30, Builtin.lenOf, Builtin.firstCells, sizeOf, typeInfo, hi, hz1, hn, hl, hst]
theorem run_copy_zero (w : World) (ty : TypeId) (d a : Option Addr) (dLen dCap sLen sCap : Nat) (hn : Nat.min sLen dLen = 0) :
    (Builtin.copy_ #[30, 30] ty #[.slice d dLen dCap, .slice a sLen sCap]).run Tryd.prog w = .ok (goInt 0) w := by
  obtain ⟨i0, hi, hz0, hz1, hz2⟩ := info_parts Tryd.infoVal
  have hl : ∀ (x : Addr), (loadCells x 0).run Tryd.prog w = .ok #[] w := fun x => by simpa using run_loadCells_list (P := Tryd.prog) w x [] (by simp)
  cases d <;> cases a <;> simp [Builtin.copy_, run_underlying Tryd.underlying30, Builtin.lenOf, Builtin.firstCells, sizeOf, typeInfo, hi, hn, storeCells, hl]
/-- 'copy(dst, src)' of values, dst in a row that is known whole. -/
theorem wp_copy_two {o : Oper} {a : Act} {w : World} {K : Act → World → Prop} {Q : Exit → Act → World → Prop} (d s : Operand)
    (ho : o.op = .call { callee := .builtin .copy, args := #[d, s], argTypes := #[30, 30] })
    (dp sp : Option Addr) (dLen dCap sLen sCap : Nat) (hd : a.eval d = .slice dp dLen dCap) (hs : a.eval s = .slice sp sLen sCap)
    (g off : Nat) (cur : List Value) (t : TypeId) (hg : w.heap[g]? = some (.cells cur.toArray t (0, 0))) (cs : List Value) (n : Nat) (hn : Nat.min sLen dLen = n) (hcs : cs.length = n * 2)
    (hpos : 0 < n → dp = some ⟨g, off, none⟩ ∧ ∃ ad, sp = some ad ∧ ∀ j v, cs[j]? = some v → w.cell? (ad.add j) = some v)
    (hfit : off + cs.length ≤ cur.length) (h1 : ∀ v ∈ cs, v.oneCell' = true) (B : Nat) (w0 : World) (hb : Below B w0 w) (hBg : B ≤ g)
    (h : ∀ w', Hid (w'.heap[g]? = some (.cells (splice cur off cs).toArray t (0, 0))) → Below B w0 w' → K (a.put o.dst (goInt n)) w') : o.wp Tryd.prog a w K Q := by
  by_cases h0 : n = 0
  · subst h0
    obtain rfl : cs = [] := List.eq_nil_of_length_eq_zero (by omega)
    have hrun := run_copy_zero w o.type dp sp dLen dCap sLen sCap hn
    unfold Oper.wp
    simp [execOp, ho, resolve, invoke, builtin, hd, hs, hrun, Result.andThen]
    exact h w (show _ = _ by simpa [splice] using hg) hb
  · obtain ⟨rfl, ad, rfl, hsrc⟩ := hpos (by omega)
    have hrun := run_copy_two w o.type g off dLen dCap ad sLen sCap cur.toArray t cs n hg hn hcs hsrc (by simpa using hfit) h1
    unfold Oper.wp
    simp [execOp, ho, resolve, invoke, builtin, hd, hs, hrun, Result.andThen]
    exact h _ (show _ = _ by simpa [splice] using setRow_heap w g _ _ t _ hg) (below_setRow hb hBg _)
theorem wpList_copy_two {ops : Array Oper} {rest : List Oper} {o : Oper} {a : Act} {w : World} {Q : Exit → Act → World → Prop} (hgd : o.guard = none) (d s : Operand)
    (ho : o.op = .call { callee := .builtin .copy, args := #[d, s], argTypes := #[30, 30] })
    (dp sp : Option Addr) (dLen dCap sLen sCap : Nat) (hd : a.eval d = .slice dp dLen dCap) (hs : a.eval s = .slice sp sLen sCap)
    (g off : Nat) (cur : List Value) (t : TypeId) (hg : w.heap[g]? = some (.cells cur.toArray t (0, 0))) (cs : List Value) (n : Nat) (hn : Nat.min sLen dLen = n) (hcs : cs.length = n * 2)
    (hpos : 0 < n → dp = some ⟨g, off, none⟩ ∧ ∃ ad, sp = some ad ∧ ∀ j v, cs[j]? = some v → w.cell? (ad.add j) = some v)
    (hfit : off + cs.length ≤ cur.length) (h1 : ∀ v ∈ cs, v.oneCell' = true) (B : Nat) (w0 : World) (hb : Below B w0 w) (hBg : B ≤ g)
    (h : ∀ w', Hid (w'.heap[g]? = some (.cells (splice cur off cs).toArray t (0, 0))) → Below B w0 w' → wpList Tryd.prog ops Q rest (a.put o.dst (goInt n)) w') : wpList Tryd.prog ops Q (o :: rest) a w :=
  wpList_plain hgd fun _ hK => wp_copy_two d s ho dp sp dLen dCap sLen sCap hd hs g off cur t hg cs n hn hcs hpos hfit h1 B w0 hb hBg fun w' h2 h3 => hK _ _ (h w' h2 h3)

/-- 'r[:p]' and 'r[p:]' of a slice of values. -/
theorem cut_head (A : Option Addr) (n cap p : Nat) (hp : p ≤ cap) (W : World) : (Instr.slice 30 (.slice A n cap) none (some (.int .i64 (p : Int))) none).run Tryd.prog W = .ok (.slice A p cap) W := by
  obtain ⟨i0, hi, hz0, hz1, hz2⟩ := info_parts Tryd.infoVal
  rw [run_slice_h W 30 A n cap (by kernel_rfl) .i64 (p : Int) (by omega) (by omega), show Tryd.prog.elem 30 = 45 by kernel_rfl, run_sizeOf W hi]
  cases A <;> simp [sliced, Result.andThen, Addr.add]
theorem cut_tail (A : Option Addr) (n cap p : Nat) (hp : p ≤ n) : ∃ X Y, (∀ W : World, (Instr.slice 30 (.slice A n cap) (some (.int .i64 (p : Int))) none none).run Tryd.prog W = .ok (.slice X (n - p) Y) W) ∧ (p < cap → ∀ a, A = some a → X = some (a.add (p * 2))) := by
  obtain ⟨i0, hi, hz0, hz1, hz2⟩ := info_parts Tryd.infoVal
  refine ⟨if cap = p then A else A.map (·.add (p * 2)), cap - p, fun W => ?_, fun h a ha => ?_⟩
  · rw [run_slice_l W 30 A n cap (by kernel_rfl) .i64 (p : Int) (by omega) (by omega), show Tryd.prog.elem 30 = 45 by kernel_rfl, run_sizeOf W hi, show Tryd.prog.cellsOf 45 = 2 by kernel_rfl]
    simp [sliced, Result.andThen]
  · rw [if_neg (by omega), ha]; rfl
theorem made_length (n : Nat) : (madeCells #[.int .i64 0, .string ⟨#[]⟩] n).toList.length = n := by simp [madeCells]
theorem owns_full {w : World} {base e size g n : Nat} {xs : List Value} (h : w.ownsRow base e size (.slice (some ⟨g, 0, none⟩) n n) n xs) : w.heap[g]? = some (.cells xs.toArray e (0, 0)) := by
  rcases h.2 with ⟨h1, _⟩ | ⟨g', cap, cur, h1, _, h3, _, _, h5, h6⟩
  · cases h1
  · injection h1 with h1 _ h2
    injection h1 with h1
    injection h1 with h1
    subst h1
    subst h2
    rw [List.take_of_length_le (by simp [h5])] at h6
    rw [h3, ← h6]
theorem items_app (a b : List Item) : itemsC (a ++ b) = itemsC a ++ itemsC b := by simp [itemsC]
theorem set_two (a b : List Value) (x y u v : Value) (k : Nat) (hk : a.length = k) : ((a ++ x :: y :: b).set k u).set (k + 1) v = a ++ u :: v :: b := by
  subst hk
  induction a with
  | nil => rfl
  | cons z r ih => simp
/-- A row that is filled: what stands ahead, a value, what stands behind. -/
theorem row_filled (Z : List Value) (r : List Item) (x : Item) (p : Nat) (hp : p ≤ r.length) (hZ : Z.length = (r.length + 1) * 2) :
    splice (((splice Z 0 (itemsC (r.take p))).set (p * 2) (.int .i64 x.1)).set (p * 2 + 1) (.string x.2)) ((p + 1) * 2) (itemsC (r.drop p)) = itemsC (r.take p ++ x :: r.drop p) := by
  have hX1 : (itemsC (r.take p)).length = p * 2 := by rw [itemsC_length, List.length_take, Nat.min_eq_left hp]
  have hX2 : (itemsC (r.drop p)).length = (r.length - p) * 2 := by rw [itemsC_length, List.length_drop]
  have e1 : splice Z 0 (itemsC (r.take p)) = itemsC (r.take p) ++ Z.drop (p * 2) := by simp [splice, hX1]
  obtain ⟨u, v, b, hb⟩ : ∃ u v b, Z.drop (p * 2) = u :: v :: b := by
    have hl : 2 ≤ (Z.drop (p * 2)).length := by rw [List.length_drop]; omega
    match Z.drop (p * 2), hl with
    | u :: v :: b, _ => exact ⟨u, v, b, rfl⟩
  have hbl : b.length = (r.length - p) * 2 := by
    have := congrArg List.length hb
    rw [List.length_drop] at this
    simp at this
    omega
  rw [e1, hb, set_two _ _ _ _ _ _ _ hX1]
  have e2 : itemsC (r.take p ++ x :: r.drop p) = itemsC (r.take p) ++ (.int .i64 x.1 :: .string x.2 :: itemsC (r.drop p)) := by rw [items_app]; rfl
  rw [e2, splice, hX2]
  have e3 : (itemsC (r.take p) ++ .int .i64 x.1 :: .string x.2 :: b).take ((p + 1) * 2) = itemsC (r.take p) ++ [.int .i64 x.1, .string x.2] := by
    rw [List.take_append, List.take_of_length_le (by omega), hX1, show (p + 1) * 2 - p * 2 = 2 by omega]
    rfl
  have e4 : (itemsC (r.take p) ++ .int .i64 x.1 :: .string x.2 :: b).drop ((p + 1) * 2 + (r.length - p) * 2) = [] := by
    apply List.drop_eq_nil_of_le
    simp [hX1, hbl]
    omega
  rw [e3, e4]
  simp
theorem splice_len (Z : List Value) (off : Nat) (cs : List Value) (h : off + cs.length ≤ Z.length) : (splice Z off cs).length = Z.length := length_splice Z off cs h
theorem row_two {w : World} {g : Nat} {Z : List Value} {t : TypeId} (hg : w.heap[g]? = some (.cells Z.toArray t (0, 0))) {k : Nat} (hk : k + 1 < Z.length) : ∃ q0 q1, w.cell? ⟨g, k, none⟩ = some q0 ∧ w.cell? ⟨g, k + 1, none⟩ = some q1 ∧ w.frozen? ⟨g, k, none⟩ = false ∧ w.frozen? ⟨g, k + 1, none⟩ = false := by
  refine ⟨Z[k], Z[k + 1], ?_, ?_, frozen_of_row w g k _ _ hg, frozen_of_row w g (k + 1) _ _ hg⟩
  · rw [cell_of_row _ _ _ _ _ _ hg]; simp [List.getElem?_eq_getElem (show k < Z.length by omega)]
  · rw [cell_of_row _ _ _ _ _ _ hg]; simp [List.getElem?_eq_getElem hk]
theorem row_put {w : World} {g : Nat} {Z : List Value} {t : TypeId} (hg : w.heap[g]? = some (.cells Z.toArray t (0, 0))) (k : Nat) (x y : Value) : ((w.setCell ⟨g, k, none⟩ x).setCell ⟨g, k + 1, none⟩ y).heap[g]? = some (.cells ((Z.set k x).set (k + 1) y).toArray t (0, 0)) := by
  have h1 := heap_setCell_same w g k _ t x hg
  have h2 := heap_setCell_same _ g (k + 1) _ t y h1
  rw [h2]
  simp
/-- A part of a slice's cells. -/
theorem vals_part {w : World} {a : Addr} {r : List Item} (h : Tlvs w (some a) r) (p : Nat) (_hp : p ≤ r.length) : (∀ j v, (itemsC (r.take p))[j]? = some v → w.cell? (a.add j) = some v) ∧ (∀ j v, (itemsC (r.drop p))[j]? = some v → w.cell? ((a.add (p * 2)).add j) = some v) := by
  have hn := tlvs_news h
  have e : itemsC r = itemsC (r.take p) ++ itemsC (r.drop p) := by rw [← items_app, List.take_append_drop]
  constructor
  · intro j v hv
    refine hn j v ?_
    rw [e, List.getElem?_append_left (List.getElem?_eq_some_iff.1 hv).1]
    exact hv
  · intro j v hv
    have hX1 : (itemsC (r.take p)).length = p * 2 := by rw [itemsC_length, List.length_take, Nat.min_eq_left _hp]
    have := hn (p * 2 + j) v (by rw [e, List.getElem?_append_right (by omega), hX1, show p * 2 + j - p * 2 = j by omega]; exact hv)
    rw [← this]
    congr 1
    unfold Addr.add
    by_cases h1 : p * 2 = 0
    · simp [h1]
    · by_cases h2 : j = 0
      · simp [h2]
      · simp [h1, h2]; omega

set_option maxRecDepth 100000 in
set_option maxHeartbeats 12800000 in
theorem mwith_any (m : ByteArray) (A : Option Addr) (cap : Nat) (l : List Item) (no : Int) (t : ByteArray) (w : World) (hI : Tlvs w A l) (hn : l.length ≤ 999) :
    Calls Tryd.prog 18 #[.agg #[.string m, .slice A l.length cap], .int .i64 no, .string t] w fun e w' => ∃ A' cap', e = .returned (.agg #[.string m, .slice A' (withL no t l).length cap']) ∧ Tlvs w' A' (withL no t l) ∧ Below w.heap.size w w' := by
  obtain ⟨i0, hi, hz0, hz1, hz2⟩ := info_parts Tryd.infoVal
  have HQ := Lib.hid (fun W hW => mothers_any A cap l no W hW (by omega))
  have hrl : (outL no l).length ≤ 999 := Nat.le_trans (out_length no l) hn
  have HP := Lib.hid (fun A' c' W hW => mplace_any A' c' (outL no l) no W hW (by omega))
  have hpl := plc_le no (outL no l)
  have HWL : Hid (withL no t l = (outL no l).take (plcL no 0 (outL no l)) ++ (no, t) :: (outL no l).drop (plcL no 0 (outL no l))) := rfl
  have HWN : Hid ((withL no t l).length = (outL no l).length + 1) := ins_length _ _
  generalize hlen : l.length = len at *
  clear hlen
  have HC := Lib.hid (mcopies_new w m A len cap)
  have HRM : Hid (MBox ((w.alloc (.cells #[.string m, .slice A len cap] 32)).alloc (.cells #[.string ⟨#[]⟩, .slice none 0 0] 32)) (w.heap.size + 1) ⟨#[]⟩ none 0 0) := heap_al _ _ _ (by simp)
  have HI := Lib.hid (hI.below HC.out.1)
  clear hI
  generalize outL no l = r at *
  generalize plcL no 0 r = p at *
  generalize hrn : r.length = rn at *
  have HRN := Lib.hid hrn
  clear hrn
  go_enter Tryd.func18, Tryd.ntmps18
  go_wp2_with fail
  generalize (w.alloc (.cells #[.string m, .slice A len cap] 32)).alloc (.cells #[.string ⟨#[]⟩, .slice none 0 0] 32) = U at *
  refine (HQ.out _ HI.out).mono ?_
  rintro e w1 ⟨A1, c1, rfl, hc1, ht1, hb1⟩
  have HT1 := Lib.hid ht1
  have HC1 := Lib.hid (HC.out.below hb1)
  have HR1 := Lib.hid (HRM.out.below hb1)
  clear ht1 hb1 HQ HI HC HRM
  go_wp2_with fail
  refine (HP.out _ _ _ HT1.out).mono ?_
  rintro e w2 ⟨rfl, hb2⟩
  have HT2 := Lib.hid (HT1.out.below hb2)
  have HC2 := Lib.hid (HC1.out.below hb2)
  have HR2 := Lib.hid (HR1.out.below hb2)
  clear hb2 HT1 HC1 HR1 HP
  go_wp2_with (at_make; refine wpList_make_full _ rfl _ _ 30 rfl w2.heap.size 45 i0 (.agg #[.int .i64 0, .string ⟨#[]⟩]) 2 Tryd.underlying30 hi hz0 hz1 _ _ _ _ (rn + 1) rfl rfl (by go_num) (by go_num) ?b2 ?b3 ?b4 ?_)
  case b2 => rw [hz2]; omega
  case b3 => unfold maxLen; omega
  case b4 => exact Nat.le_refl _
  intro w3 hown hg
  have hb3 : Below w2.heap.size w2 w3 := (Below.refl _ _).grown hg (Nat.le_refl _) (by simp)
  have HG3 := Lib.hid (owns_full hown)
  have HZL : Hid ((madeCells #[.int .i64 0, .string ⟨#[]⟩] ((rn + 1) * 2)).toList.length = (rn + 1) * 2) := made_length _
  generalize (madeCells #[.int .i64 0, .string ⟨#[]⟩] ((rn + 1) * 2)).toList = Z at *
  have HB3 := Lib.hid hb3
  clear hown hg hb3
  have hcut1 := cut_head A1 rn c1 p (by omega)
  have HS1 : Hid (∀ u, Below w2.heap.size w2 u → 0 < p → ∃ ad, A1 = some ad ∧ ∀ j v, (itemsC (r.take p))[j]? = some v → u.cell? (ad.add j) = some v) := fun u hu hp0 => by
    obtain ⟨a, ha, _⟩ := (HT2.out.below hu) 0 (by have := HRN.out; omega)
    have ht := HT2.out.below hu
    rw [ha] at ht
    exact ⟨a, ha, (vals_part ht p (by have := HRN.out; omega)).1⟩
  have HS2 : Hid (∀ u, Below w2.heap.size w2 u → p < rn → ∃ ad, A1 = some ad ∧ ∀ j v, (itemsC (r.drop p))[j]? = some v → u.cell? ((ad.add (p * 2)).add j) = some v) := fun u hu hp0 => by
    obtain ⟨a, ha, _⟩ := (HT2.out.below hu) 0 (by have := HRN.out; omega)
    have ht := HT2.out.below hu
    rw [ha] at ht
    exact ⟨a, ha, (vals_part ht p (by have := HRN.out; omega)).2⟩
  have HX1 : Hid ((itemsC (r.take p)).length = p * 2) := by show _ = _; rw [itemsC_length, List.length_take, HRN.out, Nat.min_eq_left hpl]
  have HX2 : Hid ((itemsC (r.drop p)).length = (rn - p) * 2) := by show _ = _; rw [itemsC_length, List.length_drop, HRN.out]
  have HFL := Lib.hid (fun h1 h2 => row_filled Z r (no, t) p h1 h2)
  have HO1 := Lib.hid (items_one (r.take p))
  have HO2 := Lib.hid (items_one (r.drop p))
  rw [← HWL.out] at HFL
  generalize hw : itemsC (withL no t l) = WI at *
  have HWI := Lib.hid hw
  clear hw HWL
  generalize itemsC (r.take p) = X1 at *
  generalize itemsC (r.drop p) = X2 at *
  dsimp only at HFL
  go_wp2_with (refine wpList_copy_two rfl (.tmp 21) (.tmp 24) rfl (some ⟨w2.heap.size, 0, none⟩) A1 (rn + 1) (rn + 1) p c1 rfl rfl w2.heap.size 0 Z 45 HG3.out X1 p (by show min p (rn + 1) = p; omega) HX1.out (fun hp0 => ⟨rfl, HS1.out _ HB3.out hp0⟩) (by rw [HX1.out, HZL.out]; omega) HO1.out w2.heap.size w2 HB3.out (Nat.le_refl _) ?_; intro w4 HG4 hb4; have HB4 := Lib.hid hb4; have HL4 : Hid ((splice Z 0 X1).length = (rn + 1) * 2) := Lib.hid ((splice_len _ _ _ (by rw [HX1.out, HZL.out]; omega)).trans HZL.out); obtain ⟨q0, q1, g0, g1, f0, f1⟩ := row_two HG4.out (k := p * 2) (by rw [HL4.out]; omega); clear hb4)
  have HB5 : Hid (Below w2.heap.size w2 ((w4.setCell ⟨w2.heap.size, p * 2, none⟩ (.int .i64 no)).setCell ⟨w2.heap.size, p * 2 + 1, none⟩ (.string t))) := (HB4.out.setCell (p := ⟨w2.heap.size, p * 2, none⟩) (Nat.le_refl _) _).setCell (p := ⟨w2.heap.size, p * 2 + 1, none⟩) (Nat.le_refl _) _
  have HG5 := Lib.hid (row_put HG4.out (p * 2) (.int .i64 no) (.string t))
  clear g0 g1 f0 f1 HG4 HB4 HG3 HB3 hcut1
  generalize (w4.setCell _ _).setCell _ _ = W5 at *
  have HL5 : Hid ((((splice Z 0 X1).set (p * 2) (.int .i64 no)).set (p * 2 + 1) (.string t)).length = (rn + 1) * 2) := by show _ = _; rw [List.length_set, List.length_set]; exact HL4.out
  generalize (((splice Z 0 X1).set (p * 2) (.int .i64 no)).set (p * 2 + 1) (.string t)) = Z5 at *
  obtain ⟨q, hq⟩ : ∃ q : Nat, q = p + 1 := ⟨_, rfl⟩
  obtain ⟨XA, YA, hcutA, hXA⟩ := cut_tail (some ⟨w2.heap.size, 0, none⟩) (rn + 1) (rn + 1) q (by omega)
  obtain ⟨XB, YB, hcutB, hXB⟩ := cut_tail A1 rn c1 p hpl
  have HXA := Lib.hid hXA
  have HXB := Lib.hid hXB
  have HQQ := Lib.hid hq
  clear hXA hXB hq
  refine wp_region_noPanic ?_
  refine wp_region_held_drew (S := (fun _ => True)) (by kernel_rfl) (trivial) (fun hS => ?_)
  refine gv 0 (v := ?_) (fun u hu => ?_) hS ?_
  rotate_left
  · (skip; go_simp; try (with_reducible rfl))
  try simp only [puts]
  refine gv 1 (v := ?_) (fun u hu => ?_) hS ?_
  rotate_left
  · (skip; go_simp; try (with_reducible rfl))
  try simp only [puts]
  refine gv 2 (v := (.int .i64 (q : Int))) (fun u hu => ?_) hS ?_
  · (skip; go_simp; (have hq := HQQ.out; first | omega | (rw [IntWalk.i64_in _ (by omega)]; omega)))
  try simp only [puts]
  refine gv 3 (v := ?_) (fun u hu => ?_) hS ?_
  rotate_left
  · (skip; go_simp; try (with_reducible rfl))
  try simp only [puts]
  refine gv 4 (v := ?_) (fun u hu => ?_) hS ?_
  rotate_left
  · (skip; go_simp; try (with_reducible rfl))
  try simp only [puts]
  refine gv 5 (v := ?_) (fun u hu => ?_) hS ?_
  rotate_left
  · (skip; go_simp; try (with_reducible rfl))
  try simp only [puts]
  refine gv 6 (v := ?_) (fun u hu => ?_) hS ?_
  rotate_left
  · (skip; go_simp; try (with_reducible rfl))
  try simp only [puts]
  refine only (i := 7) rfl (by kernel_rfl) (by rfl) (fun K hK => ?_)
  refine wp_copy_two _ _ (by rfl) XA XB (rn + 1 - q) YA (rn - p) YB (by rfl) (by rfl) w2.heap.size ((p + 1) * 2) Z5 45 HG5.out X2 (rn - p) (by have := HQQ.out; show min (rn - p) (rn + 1 - q) = rn - p; omega) HX2.out (fun hp0 => ?h1) (by rw [HX2.out, HL5.out]; omega) HO2.out w2.heap.size w2 HB5.out.drew (Nat.le_refl _) ?_
  case h1 =>
    have hq := HQQ.out
    obtain ⟨ad, ha, hcs⟩ := HS2.out _ HB5.out.drew (by omega)
    refine ⟨?_, ad.add (p * 2), HXB.out (by omega) ad ha, hcs⟩
    rw [HXA.out (by omega) _ rfl, hq, Addr.add_lit, Nat.zero_add]
  intro w6 HG6 hb6
  have HB6 := Lib.hid hb6
  clear hb6
  refine hK.out _ _ trivial ?_
  clear hK
  try simp only [puts]
  refine wpAnyH_done (by kernel_rfl) (NoPanic.normal ?_) _
  rw [HFL.out (by rw [HRN.out]; exact hpl) (by rw [HRN.out]; exact HZL.out)] at HG6
  have HT6 : Hid (Tlvs w6 (some ⟨w2.heap.size, 0, none⟩) (withL no t l)) := vals_row HG6.out (by rw [← HWI.out])
  obtain ⟨b0, b1, _, _⟩ := obj_cells (HC2.out.below HB6.out).2.1
  have HR6 := Lib.hid (HR2.out.below HB6.out)
  obtain ⟨r0, r1, f0, f1⟩ := obj_cells HR6.out
  have HBW := Lib.hid (HC2.out.below HB6.out).1
  go_wp2
  refine bodyPost_ret (results_cell_row rfl _ _ (w.heap.size + 1) _ _ _ _ rfl (obj_set2 HR6.out _ _) Tryd.underlying32 rfl (by kernel_rfl)) rfl ?_
  exact ⟨some ⟨w2.heap.size, 0, none⟩, rn + 1, by rw [HWN.out], vals_store2 HT6.out HR6.out _ _ _ _, below_set2 HBW.out (by omega) _ _⟩

end Go.Proofs.YthheflgfbdcnlaaDoor
