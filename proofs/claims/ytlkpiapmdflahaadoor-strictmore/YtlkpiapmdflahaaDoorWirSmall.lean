/-
  What Type and the document's Type answer, what adder makes, and what that adds: in every world (the last one: that holds the table of kinds).
-/
import Derived.Test.YtlkpiapmdflahaaDoorWirMath
import Derived.Test.YtlkpiapmdflahaaDoorPackMti
import Derived.Test.YtlkpiapmdflahaaDoorPackBcd
import Derived.Test.YtlkpiapmdflahaaDoorPackCel
import Derived.Test.YtlkpiapmdflahaaDoorPackSch
import Derived.Test.YtlkpiapmdflahaaDoorMsgChk
import Derived.Test.YtlkpiapmdflahaaDoorBld
import Derived.Lib.BufferKept
namespace Go.Proofs.YtlkpiapmdflahaaDoor
open Go.RowKit

theorem typ_one (m : ByteArray) : (⟨(typL 1 m.data.toList).toArray⟩ : ByteArray) = m := rfl
theorem typ_two {m : ByteArray} (h : mtiB m.data.toList = true) : bputB m.data.toList = true ∧ bputS m.data.toList = ⟨(typL 2 m.data.toList).toArray⟩ := by
  have h1 : bputB m.data.toList = true := bputB_yes (by rw [list_size, mti_size h]; decide) (mti_all h)
  exact ⟨h1, bputS_yes h1⟩

set_option maxRecDepth 100000 in
set_option maxHeartbeats 800000 in
theorem wtype_none (st : Int) (m : ByteArray) (w : World) (h : mtiB m.data.toList = false) :
    Calls Tryd.prog 27 #[.int .i64 st, .string m] w fun e w' => e = .returned (.tuple #[.string ⟨#[]⟩, .bool false]) ∧ Below w.heap.size w w' := by
  have HM := Lib.hid (fun W => mright_any m W)
  rw [h] at HM
  clear h
  go_enter Tryd.func27, Tryd.ntmps27
  go_wp2_with fail
  refine (HM.out _).mono ?_
  rintro e w1 ⟨rfl, hb1⟩
  go_wp2
  go_ret2
  exact ⟨rfl, hb1⟩
set_option maxRecDepth 100000 in
set_option maxHeartbeats 800000 in
theorem wtype_style (st : Int) (m : ByteArray) (w : World) (h : mtiB m.data.toList = true) (hst : st ≠ 1 ∧ st ≠ 2) :
    Calls Tryd.prog 27 #[.int .i64 st, .string m] w fun e w' => e = .returned (.tuple #[.string ⟨#[]⟩, .bool false]) ∧ Below w.heap.size w w' := by
  have HM := Lib.hid (fun W => mright_any m W)
  rw [h] at HM
  have t1 : (st == 1) = false := by simpa using hst.1
  have t2 : (st == 2) = false := by simpa using hst.2
  clear h hst
  go_enter Tryd.func27, Tryd.ntmps27
  go_wp2_with fail
  refine (HM.out _).mono ?_
  rintro e w1 ⟨rfl, hb1⟩
  go_wp2
  go_ret2
  exact ⟨rfl, hb1⟩
set_option maxRecDepth 100000 in
set_option maxHeartbeats 800000 in
/-- What Type answers of an MTI. -/
theorem wtype_yes (k : Nat) (m : ByteArray) (w : World) (h : mtiB m.data.toList = true) (hk : k = 1 ∨ k = 2) :
    Calls Tryd.prog 27 #[.int .i64 (k : Int), .string m] w fun e w' => e = .returned (.tuple #[.string ⟨(typL k m.data.toList).toArray⟩, .bool true]) ∧ Below w.heap.size w w' := by
  have HM := Lib.hid (fun W => mright_any m W)
  rw [h] at HM
  rcases hk with rfl | rfl
  · rw [typ_one]
    show Calls Tryd.prog 27 #[.int .i64 1, .string m] w _
    clear h
    go_enter Tryd.func27, Tryd.ntmps27
    go_wp2_with fail
    refine (HM.out _).mono ?_
    rintro e w1 ⟨rfl, hb1⟩
    go_wp2
    go_ret2
    exact ⟨rfl, hb1⟩
  · have HB := Lib.hid (fun W => bput_any m W (by rw [mti_size h]; decide))
    rw [(typ_two h).1, (typ_two h).2] at HB
    show Calls Tryd.prog 27 #[.int .i64 2, .string m] w _
    clear h
    generalize (⟨(typL 2 m.data.toList).toArray⟩ : ByteArray) = x at *
    go_enter Tryd.func27, Tryd.ntmps27
    go_wp2_with fail
    refine (HM.out _).mono ?_
    rintro e w1 ⟨rfl, hb1⟩
    go_wp2_with fail
    refine (HB.out _).mono ?_
    rintro e w2 ⟨rfl, hb2⟩
    go_wp2
    go_ret2
    exact ⟨rfl, hbt hb1 hb2⟩


set_option maxRecDepth 100000 in
set_option maxHeartbeats 800000 in
/-- What adder makes: a function over two blocks of its own. -/
theorem wadder_any (st v : Int) (A : Option Addr) (len cap B : Nat) (w : World) :
    Calls Tryd.prog 31 #[.agg #[.int .i64 st, .int .i64 v, .slice A len cap], .pointer (some ⟨B, 0, none⟩)] w fun e w' => e = .returned (.func (.func 62) #[] #[.pointer (some ⟨w.heap.size, 0, none⟩), .pointer (some ⟨w.heap.size + 1, 0, none⟩)]) ∧ w' = (w.alloc (.cells #[.int .i64 st, .int .i64 v, .slice A len cap] 24)).alloc (.cells #[.pointer (some ⟨B, 0, none⟩)] 73) := by
  have hmf : ∀ (fn : Fn) (first cap : Array Value) (w : World), (Instr.makeFunc fn first cap).run Tryd.prog w = .ok (.func fn first cap) w := fun _ _ _ _ => rfl
  go_enter Tryd.func31, Tryd.ntmps31
  go_wp2
  go_ret
  exact ⟨rfl, rfl⟩

theorem one_cell {w : World} {g : Nat} {a : Value} {t : TypeId} (h : w.heap[g]? = some (.cells #[a] t)) : w.cell? ⟨g, 0, none⟩ = some a := by
  rw [cell_of_row _ _ 0 _ _ _ h]; rfl
set_option maxRecDepth 100000 in
set_option maxHeartbeats 3200000 in
/-- What a field adds to the bytes so far. -/
theorem wadd_any (k : Nat) (v : Int) (A : Option Addr) (cap : Nat) (sl : List Sp) (gs gp B : Nat) (acc : List UInt8) (n : Int) (s : ByteArray) (w : World) (hk : k = 1 ∨ k = 2) (hK : Kinds w) (hI : Spl w A sl) (hn : sl.length ≤ 1000)
    (hX : Box w gs (k : Int) v A sl.length cap) (hP : w.heap[gp]? = some (.cells #[.pointer (some ⟨B, 0, none⟩)] 73)) (hU : Built w B acc) (ho : okV sl (n, s)) (hl : acc.length ≤ 90000000) :
    Calls Tryd.prog 62 #[.agg #[.int .i64 n, .string s], .pointer (some ⟨gs, 0, none⟩), .pointer (some ⟨gp, 0, none⟩)] w fun e w' => e = .returned (.tuple #[]) ∧ Built w' B (acc ++ cellL k sl (n, s)) ∧ Below B w w' ∧ Lib.OthersKept 5 (some B) w w' := by
  have HF := Lib.hid (fun W hW => sfind_any (k : Int) v A cap sl n W hW hn)
  have HC : Hid (∀ W, Kinds W → Calls Tryd.prog 63 #[.int .i64 (k : Int), .agg #[.int .i64 (fndP n sl).1.1, .int .i64 (fndP n sl).1.2.1, .int .i64 (fndP n sl).1.2.2.1, .int .i64 (fndP n sl).1.2.2.2.1, .int .i64 (fndP n sl).1.2.2.2.2], .string s] W fun e w' => e = .returned (.tuple #[.string ⟨(cellL k sl (n, s)).toArray⟩, .int .i64 0]) ∧ Below W.heap.size W w') := fun W hW => cput_ok k _ _ _ _ _ s W hW hk ho.2
  have hc := (cell_len (st := k) ho).2
  have HS : Hid ((⟨(cellL k sl (n, s)).toArray⟩ : ByteArray).size ≤ 2001) := by show _ ≤ _; rw [mk_size]; exact hc
  have HQ : Hid ((⟨(cellL k sl (n, s)).toArray⟩ : ByteArray).data.toList = cellL k sl (n, s)) := mk_list _
  have HB0 := Lib.hid (below_al w (.cells #[.int .i64 n, .string s] 42))
  have HV0 := Lib.hid (heap_alloc_new w (.cells #[.int .i64 n, .string s] 42))
  have HK := Lib.hid (hK.below HB0.out)
  have HI := Lib.hid (hI.below HB0.out)
  have HX := Lib.hid (hX.below HB0.out)
  have HP := Lib.hid (obj_below hP HB0.out)
  have HU := Lib.hid (hU.below HB0.out)
  have HBW := Lib.hid (Nat.le_of_lt hU.lt)
  have HO := Lib.hid ((Lib.OthersKept.refl 5 (some B) w).alloc (.cells #[.int .i64 n, .string s] 42))
  obtain ⟨b0, b1, b2⟩ := obj_cells3 hX
  have hz := obj_lt hX
  clear hK hI hX hP hU ho hc
  generalize fndP n sl = R at *
  obtain ⟨⟨n', c, f, lo, hi⟩, ok⟩ := R
  have HF1 : Hid (∀ W, Spl W A sl → Calls Tryd.prog 46 #[.agg #[.int .i64 (k : Int), .int .i64 v, .slice A sl.length cap], .int .i64 n] W fun e w' => e = .returned (.tuple #[.agg #[.int .i64 n', .int .i64 c, .int .i64 f, .int .i64 lo, .int .i64 hi], .bool ok]) ∧ Below W.heap.size W w') := HF.out
  dsimp only at HC
  clear HF
  generalize (⟨(cellL k sl (n, s)).toArray⟩ : ByteArray) = x at *
  generalize cellL k sl (n, s) = y at *
  generalize sl.length = len at *
  go_enter Tryd.func62, Tryd.ntmps62
  go_wp2_with fail
  refine (HF1.out _ HI.out).mono ?_
  rintro e w1 ⟨rfl, hb1⟩
  have HB1 := Lib.hid (hbt (hbt HB0.out hb1) (below_al w1 (.cells #[.int .i64 n', .int .i64 c, .int .i64 f, .int .i64 lo, .int .i64 hi] 67)))
  have HK1 := Lib.hid ((HK.out.below hb1).below (below_al w1 (.cells #[.int .i64 n', .int .i64 c, .int .i64 f, .int .i64 lo, .int .i64 hi] 67)))
  have HP1 := Lib.hid (obj_below (obj_below HP.out hb1) (below_al w1 (.cells #[.int .i64 n', .int .i64 c, .int .i64 f, .int .i64 lo, .int .i64 hi] 67)))
  have HU1 := Lib.hid ((HU.out.below hb1).below (below_al w1 (.cells #[.int .i64 n', .int .i64 c, .int .i64 f, .int .i64 lo, .int .i64 hi] 67)))
  have HO1 := Lib.hid ((HO.out.below hb1).alloc (.cells #[.int .i64 n', .int .i64 c, .int .i64 f, .int .i64 lo, .int .i64 hi] 67))
  clear b0 b1 b2 hz
  obtain ⟨b0, b1, b2⟩ := obj_cells3 (HX.out.below hb1)
  obtain ⟨c0, c1, _, _⟩ := obj_cells (obj_below HV0.out hb1)
  have hz := obj_lt (HX.out.below hb1)
  have hz1 := obj_lt (obj_below HV0.out hb1)
  clear hb1
  go_wp2_with fail
  generalize w1.alloc (.cells #[.int .i64 n', .int .i64 c, .int .i64 f, .int .i64 lo, .int .i64 hi] 67) = W1 at *
  refine (HC.out _ HK1.out).mono ?_
  rintro e w2 ⟨rfl, hb2⟩
  have HB2 := Lib.hid ((hbt HB1.out hb2).mono HBW.out)
  have hp := one_cell (obj_below HP1.out hb2)
  have HU2 := Lib.hid (HU1.out.below hb2)
  have HO2 := Lib.hid (HO1.out.below hb2)
  clear hb2 b0 b1 b2 c0 c1 hz hz1
  go_wp2_with fail
  refine (built_write B acc x _ HU2.out (by have := HS.out; omega)).mono ?_
  rintro e w3 ⟨rfl, hu3, hb3, hk3⟩
  have HE : Hid (Built w3 B (acc ++ y) ∧ Below B w w3 ∧ Lib.OthersKept 5 (some B) w w3) := ⟨by rw [← HQ.out]; exact hu3, HB2.out.trans hb3, HO2.out.trans hk3⟩
  clear hu3 hb3 hk3 hp
  go_wp2
  go_end0
  exact ⟨rfl, HE.out⟩

end Go.Proofs.YtlkpiapmdflahaaDoor
