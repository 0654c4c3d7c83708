/-
  What read answers: for both styles, every text and every place in it, in every world.
-/
import Derived.Test.YtdnckiaeeikbhaaBmpSmall
import Derived.Test.YtdnckiaeeikbhaaHexGet
import Derived.Lib.BufferWrite
import Derived.Laws.CopyOwn
namespace Go.Proofs.Ytdnckiaeeikbhaa
open Go.RowKit

theorem results_cell_row2 {P : Program} {fn : Func} {p u v : Tmp} {ty : TypeId} (h : fn.results = #[.cell p ty, .tmp u, .tmp v]) (tmps : Array Value) (w : World) (g : Nat) (t : TypeId) (cs : Array Value) (fr : Nat × Nat) (d : TypeDesc)
    (hp : tmps.getD p undef = .pointer (some ⟨g, 0, none⟩)) (hg : w.heap[g]? = some (.cells cs t fr))
    (hu : P.underlying ty = some d) (hd : (match d with | .struct _ | .array _ _ => true | _ => false) = true) (hi : (P.info? ty).map (·.size) = some cs.size) :
    (results fn tmps).run P w = .ok (.tuple #[.agg cs, tmps.getD u undef, tmps.getD v undef]) w := by
  have hp' : tmps[p]?.getD undef = .pointer (some ⟨g, 0, none⟩) := by simpa using hp
  simp [results, h, hp', asAddr, run_loadVar_row w g t ty cs fr d hg hu hd hi]

/-- 'copy(h[:], s)' of as many bytes as h has. -/
theorem wpList_copy_str {P : Program} {w : World} {ops : Array Oper} {rest : List Oper} {o : Oper} {a : Act} {Q : Exit → Act → World → Prop} (hgd : o.guard = none) (d s : Operand) (dT sT : TypeId)
    (ho : o.op = .call { callee := .builtin .copy, args := #[d, s], argTypes := #[dT, sT] }) (elem : TypeId) (hu : P.underlying dT = some (.slice elem)) (hsz : (P.info? elem).map (·.size) = some 1)
    (g dLen dCap : Nat) (t : ByteArray) (hd : a.eval d = .slice (some ⟨g, 0, none⟩) dLen dCap) (hs : a.eval s = .string t)
    (cur : Array Value) (ty : TypeId) (hg : w.heap[g]? = some (.cells cur ty (0, 0))) (hle : t.size ≤ dLen) (hfit : t.size = cur.size) (B : Nat) (w0 : World) (hb : Below B w0 w) (hBg : B ≤ g)
    (h : ∀ w', w'.heap[g]? = some (.cells (t.data.toList.map xb).toArray ty (0, 0)) → (∀ k, k ≠ g → w'.heap[k]? = w.heap[k]?) → Below B w0 w' → wpList P ops Q rest (a.put o.dst (goInt t.size)) w') : wpList P ops Q (o :: rest) a w := by
  refine wpList_plain hgd fun K hK => ?_
  have hrun := Lib.run_copy_row_string (P := P) w dT sT o.type elem g 0 dLen dCap t cur ty hu hsz hg hle (by omega)
  unfold Oper.wp
  simp [execOp, ho, resolve, invoke, builtin, hd, hs, hrun, Result.andThen]
  refine hK _ _ (h _ ?_ (fun k hk => setRow_other w g k _ hk) (below_setRow hb hBg _))
  rw [setRow_heap w g _ _ ty _ hg]
  congr 2
  simp only [Lib.byteCells]
  rw [List.drop_of_length_le (by simp; omega)]
  simp
  exact fun _ _ => rfl

def zeroV : Value := .agg #[.int .u8 0, .int .u8 0, .int .u8 0, .int .u8 0, .int .u8 0, .int .u8 0, .int .u8 0, .int .u8 0]
theorem zeroV_half : zeroV = halfV (halfL 0) := rfl

set_option maxHeartbeats 800000 in
theorem read_cut (st : Nat) (s : ByteArray) (at_ : Nat) (w : World) (hs : s.size ≤ 1000000) (ha : at_ ≤ s.size) (h : s.size < at_ + wid st) :
    Calls Try.prog 27 #[.int .i64 (st : Int), .string s, .int .i64 (at_ : Int)] w fun e w' => e = .returned (.tuple #[zeroV, .int .i64 0, .int .i64 2]) ∧ Below w.heap.size w w' := by
  unfold zeroV
  have hw : wid st ≤ 16 := by unfold wid; split <;> omega
  have HW := Lib.hid (width_any st)
  generalize wid st = n at *
  go_enter Try.func27, Try.ntmps27
  go_wp2_with fail
  refine (HW.out _).mono ?_
  rintro e w1 ⟨rfl, rfl⟩
  go_wp2
  refine bodyPost_ret (results_cell_row2 rfl _ _ w.heap.size _ _ _ _ rfl (heap_al _ _ _ rfl) Try.underlying50 rfl (by kernel_rfl)) rfl ?_
  exact ⟨rfl, below_al _ _⟩

set_option maxHeartbeats 1600000 in
theorem read_bin (st : Nat) (s : ByteArray) (at_ : Nat) (w : World) (hst : st ≠ 1) (hs : s.size ≤ 1000000) (h : at_ + 8 ≤ s.size) :
    Calls Try.prog 27 #[.int .i64 (st : Int), .string s, .int .i64 (at_ : Int)] w fun e w' => e = .returned (.tuple #[halfV (s.extract at_ (at_ + 8)).data.toList, .int .i64 ((at_ + 8 : Nat) : Int), .int .i64 0]) ∧ Below w.heap.size w w' := by
  have HW := Lib.hid (width_any st)
  rw [show wid st = 8 by unfold wid; rw [if_neg hst]] at HW
  have hst' : ((st : Int) == 1) = false := by simp; omega
  have hsl : (s.extract at_ (at_ + 8)).size = 8 := by simp; omega
  have hln : (s.extract at_ (at_ + 8)).data.toList.length = 8 := by rw [Array.length_toList]; exact hsl
  clear hst
  go_enter Try.func27, Try.ntmps27
  go_wp2_with fail
  refine (HW.out _).mono ?_
  rintro e w1 ⟨rfl, rfl⟩
  generalize hL : (s.extract at_ (at_ + 8)).data.toList = l at *
  obtain ⟨a0, a1, a2, a3, a4, a5, a6, a7, rfl⟩ := eight hln
  have HL := Lib.hid hL; clear hL
  go_wp2_with (refine wpList_copy_str rfl (.tmp 40) (.tmp 41) 63 9 rfl 5 Try.underlying63 (by kernel_rfl) (w.heap.size + 1) 8 8 (s.extract at_ (at_ + 8)) rfl rfl _ _ (heap_alloc2_new w (.cells #[.int .u8 0, .int .u8 0, .int .u8 0, .int .u8 0, .int .u8 0, .int .u8 0, .int .u8 0, .int .u8 0] 50) _) (by rw [hsl]; omega) hsl w.heap.size w (hbt (below_al _ _) (below_al _ _)) (by omega) ?_; intro w2 hr2 ho2 hb2; have h0 := (ho2 w.heap.size (by omega)).trans (heap_alloc2_old _ _ _); clear ho2; rw [HL.out] at hr2; obtain ⟨⟨c0, c1, c2, c3, c4, c5, c6, c7⟩, _⟩ := obj_cells8 (show w2.heap[w.heap.size + 1]? = some (.cells #[.int .u8 (a0.toNat : Int), .int .u8 (a1.toNat : Int), .int .u8 (a2.toNat : Int), .int .u8 (a3.toNat : Int), .int .u8 (a4.toNat : Int), .int .u8 (a5.toNat : Int), .int .u8 (a6.toNat : Int), .int .u8 (a7.toNat : Int)] 50) from hr2); obtain ⟨⟨d0, d1, d2, d3, d4, d5, d6, d7⟩, f0, f1, f2, f3, f4, f5, f6, f7⟩ := obj_cells8 h0; have H0 := Lib.hid h0; clear hr2 h0)
  refine bodyPost_ret (results_cell_row2 rfl _ _ w.heap.size _ _ _ _ rfl (obj_set8 H0.out _ _ _ _ _ _ _ _) Try.underlying50 rfl (by kernel_rfl)) rfl ?_
  exact ⟨by rw [HL.out]; rfl, below_set8 hb2 (by omega) _ _ _ _ _ _ _ _⟩

set_option maxHeartbeats 1600000 in
theorem read_bad (s : ByteArray) (at_ : Nat) (w : World) (hs : s.size ≤ 1000000) (h : at_ + 16 ≤ s.size) (hx : hgetB (s.extract at_ (at_ + 16)).data.toList = false) :
    Calls Try.prog 27 #[.int .i64 ((1 : Nat) : Int), .string s, .int .i64 (at_ : Int)] w fun e w' => e = .returned (.tuple #[zeroV, .int .i64 0, .int .i64 3]) ∧ Below w.heap.size w w' := by
  unfold zeroV
  have HW := Lib.hid (width_any 1)
  rw [show wid 1 = 16 from rfl] at HW
  have hsl : (s.extract at_ (at_ + 16)).size = 16 := by simp; omega
  have hg := fun W => hget_any (s.extract at_ (at_ + 16)) W (by rw [hsl]; omega)
  rw [hx, hgetS_no hx] at hg
  generalize hgetI (s.extract at_ (at_ + 16)).data.toList = z at hg
  have HG := Lib.hid hg; clear hg hx
  go_enter Try.func27, Try.ntmps27
  go_wp2_with fail
  refine (HW.out _).mono ?_
  rintro e w1 ⟨rfl, rfl⟩
  go_wp2_with fail
  refine (HG.out _).mono ?_
  rintro e w1 ⟨rfl, hb1⟩
  have h0 := obj_below (heap_alloc_new w (.cells #[.int .u8 0, .int .u8 0, .int .u8 0, .int .u8 0, .int .u8 0, .int .u8 0, .int .u8 0, .int .u8 0] 50)) hb1
  obtain ⟨⟨d0, d1, d2, d3, d4, d5, d6, d7⟩, f0, f1, f2, f3, f4, f5, f6, f7⟩ := obj_cells8 h0
  have H0 := Lib.hid h0
  have HB := Lib.hid (hbt (below_al _ _) hb1)
  clear h0 hb1
  go_wp2
  refine bodyPost_ret (results_cell_row2 rfl _ _ w.heap.size _ _ _ _ rfl (obj_set8 H0.out _ _ _ _ _ _ _ _) Try.underlying50 rfl (by kernel_rfl)) rfl ?_
  exact ⟨rfl, below_set8 HB.out (by omega) _ _ _ _ _ _ _ _⟩

set_option maxHeartbeats 1600000 in
theorem read_hex (s : ByteArray) (at_ : Nat) (w : World) (hs : s.size ≤ 1000000) (h : at_ + 16 ≤ s.size) (hx : hgetB (s.extract at_ (at_ + 16)).data.toList = true) :
    Calls Try.prog 27 #[.int .i64 ((1 : Nat) : Int), .string s, .int .i64 (at_ : Int)] w fun e w' => e = .returned (.tuple #[halfV (hgetL (s.extract at_ (at_ + 16)).data.toList), .int .i64 ((at_ + 16 : Nat) : Int), .int .i64 0]) ∧ Below w.heap.size w w' := by
  have HW := Lib.hid (width_any 1)
  rw [show wid 1 = 16 from rfl] at HW
  have hsl : (s.extract at_ (at_ + 16)).size = 16 := by simp; omega
  have hln : (hgetL (s.extract at_ (at_ + 16)).data.toList).length = 8 := by rw [hgetL_length, Array.length_toList]; show (s.extract at_ (at_ + 16)).size / 2 = 8; omega
  have hg := fun W => hget_any (s.extract at_ (at_ + 16)) W (by rw [hsl]; omega)
  rw [hx, hgetS_yes hx, hgetI_yes hx] at hg
  generalize hL : hgetL (s.extract at_ (at_ + 16)).data.toList = l at *
  obtain ⟨a0, a1, a2, a3, a4, a5, a6, a7, rfl⟩ := eight hln
  have hz : (⟨[a0, a1, a2, a3, a4, a5, a6, a7].toArray⟩ : ByteArray).size = 8 := rfl
  have ht : (⟨[a0, a1, a2, a3, a4, a5, a6, a7].toArray⟩ : ByteArray).data.toList = [a0, a1, a2, a3, a4, a5, a6, a7] := rfl
  generalize (⟨[a0, a1, a2, a3, a4, a5, a6, a7].toArray⟩ : ByteArray) = t at *
  have HG := Lib.hid hg
  have HT := Lib.hid ht
  clear hg hx hL ht
  go_enter Try.func27, Try.ntmps27
  go_wp2_with fail
  refine (HW.out _).mono ?_
  rintro e w1 ⟨rfl, rfl⟩
  go_wp2_with fail
  refine (HG.out _).mono ?_
  rintro e w1 ⟨rfl, hb1⟩
  have H0' := Lib.hid (obj_below (heap_alloc_new w (.cells #[.int .u8 0, .int .u8 0, .int .u8 0, .int .u8 0, .int .u8 0, .int .u8 0, .int .u8 0, .int .u8 0] 50)) hb1)
  have HB := Lib.hid (hbt (below_al _ _) hb1)
  have hlt := obj_lt H0'.out
  clear hb1
  go_wp2_with (refine wpList_copy_str rfl (.tmp 40) (.tmp 41) 63 9 rfl 5 Try.underlying63 (by kernel_rfl) w1.heap.size 8 8 t rfl rfl _ _ (heap_alloc_new w1 (.cells #[.int .u8 0, .int .u8 0, .int .u8 0, .int .u8 0, .int .u8 0, .int .u8 0, .int .u8 0, .int .u8 0] 50)) (by omega) hz w.heap.size w (hbt HB.out (below_al _ _)) (by omega) ?_; intro w2 hr2 ho2 hb2; have h0 := (ho2 w.heap.size (by omega)).trans ((heap_alloc_old' _ _ _ (by omega)).trans H0'.out); clear ho2; rw [HT.out] at hr2; obtain ⟨⟨c0, c1, c2, c3, c4, c5, c6, c7⟩, _⟩ := obj_cells8 (show w2.heap[w1.heap.size]? = some (.cells #[.int .u8 (a0.toNat : Int), .int .u8 (a1.toNat : Int), .int .u8 (a2.toNat : Int), .int .u8 (a3.toNat : Int), .int .u8 (a4.toNat : Int), .int .u8 (a5.toNat : Int), .int .u8 (a6.toNat : Int), .int .u8 (a7.toNat : Int)] 50) from hr2); obtain ⟨⟨d0, d1, d2, d3, d4, d5, d6, d7⟩, f0, f1, f2, f3, f4, f5, f6, f7⟩ := obj_cells8 h0; have H0 := Lib.hid h0; clear hr2 h0)
  refine bodyPost_ret (results_cell_row2 rfl _ _ w.heap.size _ _ _ _ rfl (obj_set8 H0.out _ _ _ _ _ _ _ _) Try.underlying50 rfl (by kernel_rfl)) rfl ?_
  exact ⟨rfl, below_set8 hb2 (by omega) _ _ _ _ _ _ _ _⟩

/-- Both styles. -/
theorem read_ok (st : Nat) (s : ByteArray) (at_ : Nat) (w : World) (hst : st = 1 ∨ st = 2) (hs : s.size ≤ 1000000) (h : at_ + wid st ≤ s.size) (hx : rdB st (s.extract at_ (at_ + wid st)).data.toList = true) :
    Calls Try.prog 27 #[.int .i64 (st : Int), .string s, .int .i64 (at_ : Int)] w fun e w' => e = .returned (.tuple #[halfV (rdL st (s.extract at_ (at_ + wid st)).data.toList), .int .i64 ((at_ + wid st : Nat) : Int), .int .i64 0]) ∧ Below w.heap.size w w' := by
  rcases hst with rfl | rfl
  · exact read_hex s at_ w hs h hx
  · exact read_bin 2 s at_ w (by omega) hs h
theorem read_no (st : Nat) (s : ByteArray) (at_ : Nat) (w : World) (hst : st = 1 ∨ st = 2) (hs : s.size ≤ 1000000) (h : at_ + wid st ≤ s.size) (hx : rdB st (s.extract at_ (at_ + wid st)).data.toList = false) :
    Calls Try.prog 27 #[.int .i64 (st : Int), .string s, .int .i64 (at_ : Int)] w fun e w' => e = .returned (.tuple #[zeroV, .int .i64 0, .int .i64 3]) ∧ Below w.heap.size w w' := by
  rcases hst with rfl | rfl
  · exact read_bad s at_ w hs h hx
  · cases hx

end Go.Proofs.Ytdnckiaeeikbhaa
