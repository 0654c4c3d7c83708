/-
  What the document's Copy of a map answers: for every map of up to 5000 rules, each of up to 5,000,000 pairs, in every world.
-/
import Derived.Test.YtbhlennolghjmaaDoorXltOf
import Derived.Test.YtbhlennolghjmaaDoorXltRow
import Derived.Test.YtbhlennolghjmaaDoorPackRul
import Derived.Test.YtbhlennolghjmaaDoorPackCod
import Derived.Test.YtbhlennolghjmaaDoorPackMsg
import Derived.Test.YtbhlennolghjmaaDoorPackBase
namespace Go.Proofs.YtbhlennolghjmaaDoor
open Go.RowKit

/-- Of the elder blocks none but g has changed: a slice of rules, a row of pairs, elsewhere stay. -/
theorem KeepX.prs {U u : World} {g : Nat} {A : Option Addr} {l : List PairT} (h : KeepX U g u) (hp : Prs U A l) (hg : ∀ a, A = some a → l ≠ [] → a.block ≠ g) : Prs u A l :=
  prs_same hp fun a ha hl => h.2 _ (by
    obtain ⟨a', ha', h0, _⟩ := hp 0 (List.length_pos_iff.2 hl)
    rw [ha] at ha'; injection ha' with e; subst e
    have := block_lt_of_cell h0
    rwa [add_block] at this) (hg a ha hl)
/-- What the loop keeps: the rules so far in a row of the call's own, their pairs behind U and not in the row. -/
def RWants (w U : World) (g : Nat) (X : Option Addr) (n c : Nat) (L : List RuB) (u : World) : Prop :=
  ∃ (Y : Option Addr) (cp : Nat), MpBox u g X n c Y L.length cp ∧ u.ownsRow U.heap.size 53 5 (.slice Y L.length cp) L.length (rubsC L) ∧
    (∀ x ∈ L, PrsX u U.heap.size (Value.ownBlock (.slice Y L.length cp)) x.2.1 x.1.2.2.2.2) ∧ KeepX U g u ∧ Below w.heap.size w u
theorem rwants_new {w U : World} {g : Nat} {X : Option Addr} {n c : Nat} (hg : MpBox U g X n c none 0 0) (hb : Below w.heap.size w U) : RWants w U g X n c [] U :=
  ⟨none, 0, hg, World.ownsRow_nil _ _ _ _, fun x hx => by simp at hx, ⟨Nat.le_refl _, fun _ _ _ => rfl⟩, hb⟩
/-- One more: appended (u1 out of u by a call that made its pairs, then a new block, then append), and stored into the wanted map. -/
theorem rwants_put {w U : World} {g : Nat} {X : Option Addr} {n c : Nat} {L : List RuB} {x : RuB} {g' cap' M : Nat} {u : World} {Y : Option Addr} {cp : Nat} (hg : g < U.heap.size) (hw : w.heap.size ≤ g) (hM : L.length = M) (hx : MpBox u g X n c Y M cp)
    (ho : u.ownsRow U.heap.size 53 5 (.slice (some ⟨g', 0, none⟩) (M + 1) cap') (M + 1) (rubsC L ++ rubC x)) (hp : ∀ y ∈ L ++ [x], PrsX u U.heap.size (some g') y.2.1 y.1.2.2.2.2) (hk : KeepX U g u) (hb : Below w.heap.size w u) :
    RWants w U g X n c (L ++ [x]) (u.setCell ⟨g, 1, none⟩ (.slice (some ⟨g', 0, none⟩) (M + 1) cap')) := by
  refine ⟨some ⟨g', 0, none⟩, cap', ?_, ?_, ?_, hk.set _ _, hb.setCell (p := ⟨g, 1, none⟩) hw _⟩
  · rw [List.length_append, hM]; exact heap_setCell_same _ g 1 _ _ _ hx
  · rw [rubsC_snoc, List.length_append, hM]; exact sowns_set1 ho hg _ _
  · intro y hy
    rw [List.length_append, hM]
    exact (hp y hy).set hg 1 _

theorem own_cap {w : World} {base e size n cap : Nat} {A : Option Addr} {xs : List Value} (h : w.ownsRow base e size (.slice A n cap) n xs) : n ≤ cap := by
  rcases h.2 with ⟨_, h0⟩ | ⟨g, cap', cur, hv, _, _, hc, _⟩
  · omega
  · injection hv with h1 h2 h3
    subst h3
    exact hc
set_option maxRecDepth 100000 in
set_option maxHeartbeats 12800000 in
theorem xcopy_any (X : Option Addr) (cM : Nat) (M : List PairT) (Y : Option Addr) (cR : Nat) (R : List Ru) (w : World) (hM : Prs w X M) (hR : Rls w Y R) (hlM : M.length ≤ 5000000) (hlR : R.length ≤ 5000) (hP : ∀ r ∈ R, r.2.2.2.2.length ≤ 5000000) :
    Calls Tryd.prog 10 #[.agg #[.slice X M.length cM, .slice Y R.length cR]] w fun e w' => ∃ X' c Y' c', e = .returned (.agg #[.slice X' M.length c, .slice Y' R.length c']) ∧ Prs w' X' M ∧ M.length ≤ c ∧ Rls w' Y' R ∧ Below w.heap.size w w' := by
  obtain ⟨i0, hi, hz0, hz1, hz2⟩ := info_parts Tryd.infoRule
  have HCM := Lib.hid (fun W h => ccopy_any X cM M W h hlM)
  have HCR := Lib.hid (fun k f t s B c P W h h2 => rcopy_far k f t s B c P W h h2)
  have HBU := Lib.hid (hbt (below_al w (.cells #[.slice X M.length cM, .slice Y R.length cR] 25)) (below_al _ (.cells #[.slice none 0 0, .slice none 0 0] 25)))
  have HXU : Hid (MpBox ((w.alloc (.cells #[.slice X M.length cM, .slice Y R.length cR] 25)).alloc (.cells #[.slice none 0 0, .slice none 0 0] 25)) w.heap.size X M.length cM Y R.length cR) := obj_below (heap_alloc_new _ _) (below_al _ _)
  have HRU : Hid (MpBox ((w.alloc (.cells #[.slice X M.length cM, .slice Y R.length cR] 25)).alloc (.cells #[.slice none 0 0, .slice none 0 0] 25)) (w.heap.size + 1) none 0 0 none 0 0) := heap_al _ _ _ (by simp)
  have HSU : Hid (((w.alloc (.cells #[.slice X M.length cM, .slice Y R.length cR] 25)).alloc (.cells #[.slice none 0 0, .slice none 0 0] 25)).heap.size = w.heap.size + 2) := by show _ = _; simp
  have HM := Lib.hid (hM.below HBU.out)
  have HR := Lib.hid hR
  have HP := Lib.hid hP
  generalize hn : M.length = n at *
  generalize hm : R.length = m at *
  have HN := Lib.hid hn
  have HMM := Lib.hid hm
  clear hM hR hP hn hm hlM
  go_enter Tryd.func10, Tryd.ntmps10
  go_wp2_with fail
  generalize (w.alloc (.cells #[.slice X n cM, .slice Y m cR] 25)).alloc (.cells #[.slice none 0 0, .slice none 0 0] 25) = U0 at *
  refine (HCM.out _ HM.out).mono ?_
  rintro e w2 ⟨X', c1, rfl, hown, hb2⟩
  have HCAP := Lib.hid (own_cap hown)
  have HX2 : Hid (PrsX w2 (w.heap.size + 2) (some w2.heap.size) X' M) := ⟨prs_row hown HN.out.symm, fun a ha hl => by
    have h := hown.lt a.block (by rw [ha]; rfl)
    have := HSU.out
    exact ⟨by omega, fun e => by injection e with e; omega, h.2⟩⟩
  have hbn := below_al w2 (.cells #[.slice X' n c1, .slice none 0 0] 25)
  have HX3 := Lib.hid (HX2.out.below hbn)
  have HG3 : Hid (MpBox (w2.alloc (.cells #[.slice X' n c1, .slice none 0 0] 25)) w2.heap.size X' n c1 none 0 0) := heap_alloc_new _ _
  have HB3 := Lib.hid (hbt (hbt HBU.out hb2) hbn)
  have HXI3 := Lib.hid ((HXU.out.below hb2).below hbn)
  have HRU3 := Lib.hid ((HRU.out.below hb2).below hbn)
  have HGZ : Hid (w.heap.size + 2 ≤ w2.heap.size) := by have := hb2.size; have := HSU.out; show _ ≤ _; omega
  clear hown hb2 hbn HX2 HCM HBU HXU HRU HSU HM
  go_wp2_with fail
  generalize w2.alloc (.cells #[.slice X' n c1, .slice none 0 0] 25) = U at *
  generalize w2.heap.size = g at *
  have HGU := Lib.hid (obj_lt HG3.out)
  have HWU := Lib.hid HB3.out.size
  go_loopw [4] (fun i wr => ∃ (k : Nat) (L : List RuB), k ≤ m ∧ i = .int .i64 (k : Int) ∧ L.map Prod.fst = R.take k ∧ RWants w U g X' n c1 L wr) (fun i _ => m - (intOf i).toNat)
  case atStart => exact ⟨0, [], Nat.zero_le _, rfl, rfl, rwants_new HG3.out HB3.out⟩
  case round =>
    obtain ⟨q, L, hq, rfl, hL, Y1, cp, hbox, hown, hpx, hkeep, hb⟩ := hrel
    have HX := Lib.hid hbox
    have HO := Lib.hid hown
    have HPX := Lib.hid hpx
    have HK := Lib.hid hkeep
    have HB := Lib.hid hb
    have HL := Lib.hid hL
    have HXI : Hid (MpBox wr w.heap.size X n cM Y m cR) := hkeep.obj HXI3.out (by have := HGZ.out; omega)
    have HLQ : Hid (L.length = q) := by have h := congrArg List.length hL; rw [List.length_map, List.length_take, HMM.out] at h; show _ = _; omega
    obtain ⟨x0, x1, _, _⟩ := obj_cells hbox
    obtain ⟨x2, x3, _, _⟩ := obj_cells HXI.out
    clear hown hbox hb hkeep hpx hL
    generalize hll : L.length = ln at *
    have HLL := Lib.hid hll
    clear hll
    by_cases hlt : q < m
    · have hql : q < R.length := by have := HMM.out; omega
      obtain ⟨a, k, f, t, s, B, P, c, rfl, hxr, hcr⟩ : ∃ a k f t s B P c, Y = some a ∧ ruAt R q = (k, f, t, s, P) ∧ ∀ u, Below w.heap.size w u → (u.cell? (a.add (q * 5)) = some (.int .i64 k) ∧ u.cell? ⟨(a.add (q * 5)).block, (a.add (q * 5)).off + 1, none⟩ = some (.int .i64 f) ∧ u.cell? ⟨(a.add (q * 5)).block, (a.add (q * 5)).off + 2, none⟩ = some (.int .i64 t) ∧ u.cell? ⟨(a.add (q * 5)).block, (a.add (q * 5)).off + 3, none⟩ = some (.string s) ∧ u.cell? ⟨(a.add (q * 5)).block, (a.add (q * 5)).off + 4, none⟩ = some (.slice B P.length c)) ∧ Prs u B P := by
        obtain ⟨a, k, f, t, s, P, B, c, h⟩ := rls_all HR.out hql
        exact ⟨a, k, f, t, s, B, P, c, h⟩
      have HPZ : Hid (P.length ≤ 5000000) := by
        have h := HP.out (ruAt R q) (by rw [ruAt_get hql]; exact List.getElem_mem hql)
        rw [hxr] at h; exact h
      have HST : Hid ((L ++ [((k, f, t, s, P), (none : Option Addr), 0)]).map Prod.fst = R.take (q + 1)) := by show _ = _; rw [List.map_append, HL.out, take_ru hql, hxr]; rfl
      have HCL := Lib.hid hcr
      obtain ⟨⟨c0, c1', c2, c3, c4⟩, hpr⟩ := hcr _ HB.out
      have HPR := Lib.hid hpr
      have HC := Lib.hid (HCR.out k f t s B c P)
      clear hxr hql hcr hpr
      generalize hpl : P.length = pl at *
      have HPL := Lib.hid hpl
      clear hpl
      go_wp2_with fail
      clear x0 x1 x2 x3
      refine wp_region_noPanic ?_
      refine wp_region_late (fun u => MpBox u g X' n c1 Y1 ln cp ∧ MpBox u w.heap.size X n cM (some a) m cR ∧ u.cell? (a.add (q * 5)) = some (.int .i64 k) ∧ u.cell? ⟨(a.add (q * 5)).block, (a.add (q * 5)).off + 1, none⟩ = some (.int .i64 f) ∧ u.cell? ⟨(a.add (q * 5)).block, (a.add (q * 5)).off + 2, none⟩ = some (.int .i64 t) ∧ u.cell? ⟨(a.add (q * 5)).block, (a.add (q * 5)).off + 3, none⟩ = some (.string s) ∧ u.cell? ⟨(a.add (q * 5)).block, (a.add (q * 5)).off + 4, none⟩ = some (.slice B pl c)) 11 (by kernel_rfl) ((show MpBox wr g X' n c1 Y1 ln cp ∧ MpBox wr w.heap.size X n cM (some a) m cR ∧ wr.cell? (a.add (q * 5)) = some (.int .i64 k) ∧ wr.cell? ⟨(a.add (q * 5)).block, (a.add (q * 5)).off + 1, none⟩ = some (.int .i64 f) ∧ wr.cell? ⟨(a.add (q * 5)).block, (a.add (q * 5)).off + 2, none⟩ = some (.int .i64 t) ∧ wr.cell? ⟨(a.add (q * 5)).block, (a.add (q * 5)).off + 3, none⟩ = some (.string s) ∧ wr.cell? ⟨(a.add (q * 5)).block, (a.add (q * 5)).off + 4, none⟩ = some (.slice B pl c) from ⟨HX.out, HXI.out, c0, c1', c2, c3, c4⟩)) (fun hT => ?_)
      refine lv 0 (v := ?_) (fun u hu => ?_) hT ?_
      rotate_left
      · ((rcases hu with ⟨hu1, hu2, q0, q1, q2, q3, q4⟩; obtain ⟨b0, b1, _, _⟩ := obj_cells hu1; obtain ⟨b2, b3, _, _⟩ := obj_cells hu2; clear hu1 hu2); go_simp; try (with_reducible rfl))
      try simp only [puts]
      refine lv 1 (v := ?_) (fun u hu => ?_) hT ?_
      rotate_left
      · ((rcases hu with ⟨hu1, hu2, q0, q1, q2, q3, q4⟩; obtain ⟨b0, b1, _, _⟩ := obj_cells hu1; obtain ⟨b2, b3, _, _⟩ := obj_cells hu2; clear hu1 hu2); go_simp; try (with_reducible rfl))
      try simp only [puts]
      refine lv 2 (v := ?_) (fun u hu => ?_) hT ?_
      rotate_left
      · ((rcases hu with ⟨hu1, hu2, q0, q1, q2, q3, q4⟩; obtain ⟨b0, b1, _, _⟩ := obj_cells hu1; obtain ⟨b2, b3, _, _⟩ := obj_cells hu2; clear hu1 hu2); go_simp; try (with_reducible rfl))
      try simp only [puts]
      refine lv 3 (v := ?_) (fun u hu => ?_) hT ?_
      rotate_left
      · ((rcases hu with ⟨hu1, hu2, q0, q1, q2, q3, q4⟩; obtain ⟨b0, b1, _, _⟩ := obj_cells hu1; obtain ⟨b2, b3, _, _⟩ := obj_cells hu2; clear hu1 hu2); go_simp; try (with_reducible rfl))
      try simp only [puts]
      refine lv 4 (v := ?_) (fun u hu => ?_) hT ?_
      rotate_left
      · ((rcases hu with ⟨hu1, hu2, q0, q1, q2, q3, q4⟩; obtain ⟨b0, b1, _, _⟩ := obj_cells hu1; obtain ⟨b2, b3, _, _⟩ := obj_cells hu2; clear hu1 hu2); go_simp; try (with_reducible rfl))
      try simp only [puts]
      refine lv 5 (v := ?_) (fun u hu => ?_) hT ?_
      rotate_left
      · ((rcases hu with ⟨hu1, hu2, q0, q1, q2, q3, q4⟩; obtain ⟨b0, b1, _, _⟩ := obj_cells hu1; obtain ⟨b2, b3, _, _⟩ := obj_cells hu2; clear hu1 hu2); go_simp; try (with_reducible rfl))
      try simp only [puts]
      refine lv 6 (v := ?_) (fun u hu => ?_) hT ?_
      rotate_left
      · ((rcases hu with ⟨hu1, hu2, q0, q1, q2, q3, q4⟩; obtain ⟨b0, b1, _, _⟩ := obj_cells hu1; obtain ⟨b2, b3, _, _⟩ := obj_cells hu2; clear hu1 hu2); go_simp; try (with_reducible rfl))
      try simp only [puts]
      refine late_lone (i := 7) rfl (by kernel_rfl) (by rfl) (fun K hK => ?_)
      refine wp_enters_some (T := fun v w' => ∃ B' c', v = .agg #[.int .i64 k, .int .i64 f, .int .i64 t, .string s, .slice B' pl c'] ∧ Prs w' B' P ∧ (∀ a, B' = some a → wr.heap.size ≤ a.block ∧ a.block < w'.heap.size) ∧ Below wr.heap.size wr w') 31 #[.agg #[.int .i64 k, .int .i64 f, .int .i64 t, .string s, .slice B pl c]] ((HC.out wr.drew HPR.out HPZ.out).mono fun e w' he => ?_) ?_ ?_
      · obtain ⟨B', c', he1, he2, he3, he4⟩ := he
        exact ⟨_, he1, B', c', rfl, he2, he3, ⟨he4.1, he4.2, he4.3, he4.4, he4.5⟩⟩
      · (go_simp; try (with_reducible rfl))
      intro v7 w7 hT7
      obtain ⟨B', c', rfl, hp7, hfar7, hb7⟩ := hT7
      have HX7 := Lib.hid (HX.out.below hb7)
      have HXI7 := Lib.hid (HXI.out.below hb7)
      have HO7 := Lib.hid (sowns_below HO.out hb7)
      have HB7 := Lib.hid (hbt HB.out hb7)
      have HPN : Hid (PrsX w7 U.heap.size (Value.ownBlock (.slice Y1 ln cp)) B' P) := ⟨hp7, fun b hb hl => by
        have h := hfar7 b hb
        have h2 := HK.out.1
        exact ⟨by omega, fun e => by have h3 := HO.out.lt b.block e.symm; omega, h.2⟩⟩
      have HPX7 : Hid (∀ x ∈ L, PrsX w7 U.heap.size (Value.ownBlock (.slice Y1 ln cp)) x.2.1 x.1.2.2.2.2) := fun x hx => (HPX.out x hx).below hb7
      have HBW7 := Lib.hid hb7
      obtain ⟨⟨d0, d1, d2, d3, d4⟩, _⟩ := HCL.out _ HB7.out
      clear hp7 hfar7 hb7
      refine hK.out _ _ (⟨HX7.out, HXI7.out, d0, d1, d2, d3, d4⟩) ?_
      clear hK
      try simp only [puts]
      clear d0 d1 d2 d3 d4
      have hbal := below_al w7 (.cells #[.int .i64 k, .int .i64 f, .int .i64 t, .string s, .slice B' pl c'] 53)
      obtain ⟨⟨d0, d1, d2, d3, d4⟩, _⟩ := HCL.out _ (hbt HB7.out hbal)
      refine late_lone (i := 8) rfl (by kernel_rfl) (by rfl) (fun K hK => ?_)
      go_simp
      refine hK.out _ _ (⟨HX7.out.below hbal, HXI7.out.below hbal, d0, d1, d2, d3, d4⟩) ?_
      clear hK
      try simp only [puts]
      clear d0 d1 d2 d3 d4
      refine late_lone (i := 9) rfl (by kernel_rfl) (by rfl) (fun K hK => ?_)
      refine wp_append_lies _ _ _ _ (by rfl) U.heap.size 53 i0 _ 5 64 Tryd.underlying23 hi hz0 hz1 hz2 rfl (by omega) (.slice Y1 ln cp) ln (rubsC L) (by rfl) (HO7.out.alloc _) ⟨w7.heap.size, 0, none⟩ 1 1 (rubC ((k, f, t, s, P), B', c')) (by rfl) (by rfl) (World.news_of_block (cs := #[.int .i64 k, .int .i64 f, .int .i64 t, .string s, .slice B' P.length c']) (t := 53) (fr := (0, 0)) (by rw [HPL.out]; exact heap_alloc_new w7 _)) (by simp [rubC, Value.oneCell']) (by omega) (by have := HLQ.out; unfold maxLen; omega) (by have := HLQ.out; omega) (by have := HK.out.1; have := HBW7.out.size; simp; omega) (w7.heap.size + 1) (by simp) ?_
      intro g' cap' w8 hown8 hgrow8 hat8 hlt8
      have hbB : Below U.heap.size wr w8 := ((HBW7.out.mono HK.out.1).alloc (by have := HK.out.1; have := HBW7.out.size; omega) _).grown hgrow8 (by have := HK.out.1; have := HBW7.out.size; simp; omega) (fun q hq => (HO7.out.lt q hq).1)
      have HO8 := Lib.hid hown8
      have HK8 := Lib.hid (HK.out.step hbB)
      have HX8 : Hid (MpBox w8 g X' n c1 Y1 ln cp) := (hbB.block _ HGU.out).trans HX.out
      have HXI8 : Hid (MpBox w8 w.heap.size X n cM (some a) m cR) := HK8.out.obj HXI3.out (by have := HGZ.out; omega)
      have HB8 := Lib.hid (HB.out.trans (hbB.mono HWU.out))
      have HPA : Hid (∀ y ∈ L ++ [((k, f, t, s, P), B', c')], PrsX w8 U.heap.size (some g') y.2.1 y.1.2.2.2.2) := fun y hy => by
        have h : PrsX w7 U.heap.size (Value.ownBlock (.slice Y1 ln cp)) y.2.1 y.1.2.2.2.2 := by
          rcases List.mem_append.1 hy with hy | hy
          · exact HPX7.out y hy
          · rw [List.mem_singleton] at hy; subst hy; exact HPN.out
        refine (h.below hbal).grown hgrow8 fun b hb => ?_
        injection hb with hb
        subst hb
        rcases hat8 with e | e
        · exact Or.inl e
        · right; simp; omega
      obtain ⟨⟨d0, d1, d2, d3, d4⟩, _⟩ := HCL.out _ HB8.out
      clear hown8 hgrow8 hat8 hlt8 hbB hbal
      refine hK.out _ _ (⟨HX8.out, HXI8.out, d0, d1, d2, d3, d4⟩) ?_
      clear hK
      try simp only [puts]
      clear hT
      have hT : MpBox w8 g X' n c1 Y1 ln cp ∧ MpBox w8 w.heap.size X n cM (some a) m cR ∧ w8.cell? (a.add (q * 5)) = some (.int .i64 k) ∧ w8.cell? ⟨(a.add (q * 5)).block, (a.add (q * 5)).off + 1, none⟩ = some (.int .i64 f) ∧ w8.cell? ⟨(a.add (q * 5)).block, (a.add (q * 5)).off + 2, none⟩ = some (.int .i64 t) ∧ w8.cell? ⟨(a.add (q * 5)).block, (a.add (q * 5)).off + 3, none⟩ = some (.string s) ∧ w8.cell? ⟨(a.add (q * 5)).block, (a.add (q * 5)).off + 4, none⟩ = some (.slice B pl c) := ⟨HX8.out, HXI8.out, d0, d1, d2, d3, d4⟩
      refine lv 10 (v := ?_) (fun u hu => ?_) hT ?_
      rotate_left
      · ((rcases hu with ⟨hu1, hu2, q0, q1, q2, q3, q4⟩; obtain ⟨b0, b1, _, _⟩ := obj_cells hu1; obtain ⟨b2, b3, _, _⟩ := obj_cells hu2; clear hu1 hu2); go_simp; try (with_reducible rfl))
      try simp only [puts]
      refine late_only rfl (by kernel_rfl) (by rfl) (fun K hK => ?_)
      obtain ⟨j0, j1, f0, f1⟩ := obj_cells HX8.out
      go_simp
      refine hK.out _ _ ?_
      clear hK
      try simp only [puts]
      refine late_done (by kernel_rfl) (NoPanic.normal ?_) _
      clear hT j0 j1 f0 f1 d0 d1 d2 d3 d4 c0 c1' c2 c3 c4
      go_wp2
      go_roundw
      case rel => exact ⟨q + 1, L ++ [((k, f, t, s, P), B', c')], by omega, by go_num, by rw [← HST.out, List.map_append, List.map_append]; rfl, rwants_put HGU.out (by have := HGZ.out; omega) HLL.out HX8.out HO8.out HPA.out HK8.out HB8.out⟩
      case measure => simp [intOf]; omega
    · have he : R.take q = R := List.take_of_length_le (by have := HMM.out; omega)
      have HLR := Lib.hid (HL.out.trans he)
      have HXR : Hid (MpBox wr (w.heap.size + 1) none 0 0 none 0 0) := HK.out.obj HRU3.out (by have := HGZ.out; omega)
      have HXP : Hid (PrsX wr (w.heap.size + 2) (some g) X' M) := ⟨HK.out.prs HX3.out.1 fun a ha hl e => (HX3.out.2 a ha hl).2.1 (by rw [e]), fun a ha hl => ⟨(HX3.out.2 a ha hl).1, (HX3.out.2 a ha hl).2.1, Nat.lt_of_lt_of_le (HX3.out.2 a ha hl).2.2 HK.out.1⟩⟩
      have HLM : Hid (ln = m) := by have := HLQ.out; show _ = _; omega
      obtain ⟨r0, r1, f0, f1⟩ := obj_cells HXR.out
      go_wp2
      refine bodyPost_ret (results_cell_row rfl _ _ (w.heap.size + 1) _ _ _ _ rfl (obj_set2 HXR.out _ _) Tryd.underlying25 rfl (by kernel_rfl)) rfl ?_
      have hlo : w.heap.size + 1 < U.heap.size := by have := HGZ.out; have := HGU.out; omega
      have hO := sowns_set1 (sowns_set1 HO.out hlo 0 (.slice X' n c1)) hlo 1 (.slice Y1 ln cp)
      have hRl := rls_own hO HLL.out.symm (fun x hx => (((HPX.out x hx).set hlo 0 (.slice X' n c1)).set hlo 1 (.slice Y1 ln cp)).1)
      rw [HLR.out] at hRl
      exact ⟨X', c1, Y1, cp, by rw [HLM.out], ((HXP.out.set (by omega) 0 (.slice X' n c1)).set (by omega) 1 (.slice Y1 ln cp)).1, HCAP.out, hRl, below_set2 HB.out (by omega) _ _⟩

end Go.Proofs.YtbhlennolghjmaaDoor
