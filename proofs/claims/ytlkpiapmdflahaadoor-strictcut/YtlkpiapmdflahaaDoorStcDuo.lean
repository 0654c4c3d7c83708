/-
  A schema and a message in the first two blocks that a law makes; a valid message's bytes, decoded: whole, with more behind, cut off.
-/
import Derived.Test.YtlkpiapmdflahaaDoorStcMath
import Derived.Test.YtlkpiapmdflahaaDoorMsgOf
namespace Go.Proofs.YtlkpiapmdflahaaDoor
open Go.RowKit

def SDuo (w : World) (st v : Int) (A : Option Addr) (len cap : Nat) (m : ByteArray) (B : Option Addr) (n c : Nat) (u : World) : Prop :=
  Below w.heap.size w u ∧ Box u w.heap.size st v A len cap ∧ MBox u (w.heap.size + 1) m B n c
theorem SDuo.below {w : World} {st v : Int} {A : Option Addr} {len cap : Nat} {m : ByteArray} {B : Option Addr} {n c : Nat} {u u' : World} (h : SDuo w st v A len cap m B n c u) (hb : Below u.heap.size u u') : SDuo w st v A len cap m B n c u' :=
  ⟨hbt h.1 hb, h.2.1.below hb, h.2.2.below hb⟩
theorem sduo_new (w : World) (st v : Int) (A : Option Addr) (len cap : Nat) (m : ByteArray) (B : Option Addr) (n c : Nat) : SDuo w st v A len cap m B n c ((w.alloc (.cells #[.int .i64 st, .int .i64 v, .slice A len cap] 24)).alloc (.cells #[.string m, .slice B n c] 28)) :=
  ⟨hbt (below_al _ _) (below_al _ _), (box_new _ _ _ _ _ _).below (below_al _ _), heap_al _ _ _ (by simp)⟩

theorem enc_size {st v : Int} {sl : List Sp} {m : ByteArray} {l : List Item} (h : msgN st v sl m l = (0, 0)) (hl : l.length ≤ 200) : (encS st v sl m l).size ≤ 500000 := by
  rw [encS_yes h, mk_size]
  have := enc_len (st := st.toNat) (valid_all h).1 (valid_all h).2
  omega
theorem dec_enc {st v : Int} {sl : List Sp} {m : ByteArray} {l : List Item} (h : msgN st v sl m l = (0, 0)) (c : ByteArray) : decN st v sl (encS st v sl m l ++ c) = (m, l, if c.data.toList = [] then (0, 0) else (12, 129)) := by
  obtain ⟨k, rfl, hk⟩ := valid_style h
  exact decN_back h hk (by rw [app_list, encS_yes h, mk_list, Int.toNat_natCast])
theorem dec_whole {st v : Int} {sl : List Sp} {m : ByteArray} {l : List Item} (h : msgN st v sl m l = (0, 0)) : decN st v sl (encS st v sl m l) = (m, l, (0, 0)) := by
  have := dec_enc h ⟨#[]⟩
  rw [show encS st v sl m l ++ ⟨#[]⟩ = encS st v sl m l from ext_eq (by rw [app_list]; simp)] at this
  rw [this]
  rfl
theorem dec_more {st v : Int} {sl : List Sp} {m : ByteArray} {l : List Item} (h : msgN st v sl m l = (0, 0)) {c : ByteArray} (hc : c.data.toList ≠ []) : decN st v sl (encS st v sl m l ++ c) = (m, l, (12, 129)) := by
  rw [dec_enc h c, if_neg hc]
theorem dec_cut {st v : Int} {sl : List Sp} {m : ByteArray} {l : List Item} (h : msgN st v sl m l = (0, 0)) {n : Nat} (hn : n < (encS st v sl m l).size) : ∃ j, (decN st v sl ((encS st v sl m l).extract 0 n)).2.1 = l.take j ∧ (decN st v sl ((encS st v sl m l).extract 0 n)).2.2.1 = 2 := by
  obtain ⟨k, rfl, hk⟩ := valid_style h
  rw [encS_yes h, mk_size, Int.toNat_natCast] at hn
  exact decN_cut h hk hn (by rw [encS_yes h, Int.toNat_natCast]; simp)

end Go.Proofs.YtlkpiapmdflahaaDoor
