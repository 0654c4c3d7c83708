/-
  Which fields the program reads from a place on: for every schema that may be, set and bytes, in every world that holds the table of kinds.
-/
import Derived.Test.YtlkpiapmdflahaaDoorStcOf
import Derived.Test.YtlkpiapmdflahaaDoorFldNext
import Derived.Test.YtlkpiapmdflahaaDoorPackCel
import Derived.Test.YtlkpiapmdflahaaDoorPackSch
import Derived.Test.YtlkpiapmdflahaaDoorMsgCut
namespace Go.Proofs.YtlkpiapmdflahaaDoor
open Go.RowKit

/-- The set's numbers above m, rising. -/
def restN (h l m : Nat) : List Int := zi ((List.range' (m + 1) (128 - m)).filter fun k => hasN h l (k : Int))
theorem rest_all (h l : Nat) : restN h l 0 = zi (listN h l 128) := rfl
theorem zi_app (a b : List Nat) : zi (a ++ b) = zi a ++ zi b := by simp [zi]
theorem list_rest (h l : Nat) {m : Nat} (hm : m ≤ 128) : zi (listN h l 128) = zi (listN h l m) ++ restN h l m := by
  have e := List.range'_append_1 (s := 1) (m := m) (n := 128 - m)
  rw [show m + (128 - m) = 128 by omega, Nat.add_comm 1 m] at e
  unfold restN listN
  rw [← e, List.filter_append, zi_app]
theorem rest_next {h l m r : Nat} (b1 : h < M64) (b2 : l < M64) (hm : m ≤ 128) (hr : nextN h l (m : Int) = r) (h0 : r ≠ 0) : restN h l m = (r : Int) :: restN h l r := by
  have hr8 : r ≤ 128 := by have := next_le h l b1 b2 (m : Int); omega
  have e1 := list_rest h l hm
  have e2 := list_rest h l hr8
  rw [listN_next b1 b2 hr h0, zi_app, List.append_assoc] at e2
  exact List.append_cancel_left (e1.symm.trans e2)
theorem rest_end {h l m : Nat} (b1 : h < M64) (b2 : l < M64) (hm : m ≤ 128) (h0 : nextN h l (m : Int) = 0) : restN h l m = [] := by
  have e := list_rest h l hm
  rw [listN_end b1 b2 hm h0] at e
  exact List.self_eq_append_right.1 e
theorem fnd_right {st v : Int} {sl : List Sp} {no : Int} (h : (schN st v sl).1 = 0) (hf : (fndP no sl).2 = true) : spkS (fndP no sl).1 = 0 := by
  rcases fnd_rel no sl 0 with ⟨g1, _⟩ | ⟨k, hk, _, g1⟩
  · rw [g1] at hf; cases hf
  · rw [g1]
    refine (right_rise h).right _ ?_
    rw [spAt_get hk]
    exact List.getElem_mem hk

/-- The answer is this list of fields, somewhere; and the fault, or, if there is none, the place behind the last one. -/
def FldTo (R : List Item × (Int × Int)) (b : ByteArray) (w w' : World) (e : Ending) : Prop :=
  ∃ (A' : Option Addr) (c' q : Nat) (f f' : Int), e = .returned (.tuple #[.slice A' R.1.length c', .int .i64 (q : Int), .agg #[.int .i64 f, .int .i64 f']]) ∧ Tlvs w' A' R.1 ∧ Below w.heap.size w w' ∧
    ((f ≠ 0 ∧ (f, f') = R.2) ∨ (f = 0 ∧ f' = 0 ∧ (if q < b.size then ((12 : Int), (129 : Int)) else (0, 0)) = R.2))
/-- A schema, a set, and room for a fault, in the first three blocks that the call makes. -/
def FTrio (w : World) (st v : Int) (A : Option Addr) (len cap h l : Nat) (u : World) : Prop :=
  Below w.heap.size w u ∧ Box u w.heap.size st v A len cap ∧ u.heap[w.heap.size + 1]? = some (.cells #[.int .u64 (h : Int), .int .u64 (l : Int)] 52) ∧ u.heap[w.heap.size + 2]? = some (.cells #[.int .i64 0, .int .i64 0] 31)
theorem FTrio.below {w : World} {st v : Int} {A : Option Addr} {len cap h l : Nat} {u u' : World} (t : FTrio w st v A len cap h l u) (hb : Below u.heap.size u u') : FTrio w st v A len cap h l u' :=
  ⟨hbt t.1 hb, t.2.1.below hb, obj_below t.2.2.1 hb, obj_below t.2.2.2 hb⟩
theorem ftrio_new (w : World) (st v : Int) (A : Option Addr) (len cap h l : Nat) : FTrio w st v A len cap h l (((w.alloc (.cells #[.int .i64 st, .int .i64 v, .slice A len cap] 24)).alloc (.cells #[.int .u64 (h : Int), .int .u64 (l : Int)] 52)).alloc (.cells #[.int .i64 0, .int .i64 0] 31)) :=
  ⟨hbt (hbt (below_al _ _) (below_al _ _)) (below_al _ _), ((box_new _ _ _ _ _ _).below (below_al _ _)).below (below_al _ _), obj_below (heap_al _ _ _ (by simp)) (below_al _ _), heap_al _ _ _ (by simp)⟩
theorem results_tmp2_cell {P : Program} {fn : Func} {u v p : Tmp} {ty : TypeId} (h : fn.results = #[.tmp u, .tmp v, .cell p ty]) (tmps : Array Value) (w : World) (g : Nat) (t : TypeId) (cs : Array Value) (fr : Nat × Nat) (d : TypeDesc)
    (hp : tmps.getD p undef = .pointer (some ⟨g, 0, none⟩)) (hg : w.heap[g]? = some (.cells cs t fr))
    (hu : P.underlying ty = some d) (hd : (match d with | .struct _ | .array _ _ => true | _ => false) = true) (hi : (P.info? ty).map (·.size) = some cs.size) :
    (results fn tmps).run P w = .ok (.tuple #[tmps.getD u undef, tmps.getD v undef, .agg cs]) w := by
  have hp' : tmps[p]?.getD undef = .pointer (some ⟨g, 0, none⟩) := by simpa using hp
  simp [results, h, hp', asAddr, run_loadVar_row w g t ty cs fr d hg hu hd hi]
theorem vals_form {w : World} {base n e : Nat} {v : Value} {l : List Item} (h : w.ownsRow base e 2 v n (itemsC l)) (hn : n = l.length) : ∃ A cap, v = .slice A n cap := by
  obtain ⟨A, cap, hv, _⟩ := vals_own h hn
  exact ⟨A, cap, by rw [hv, hn]⟩

set_option maxRecDepth 100000 in
set_option maxHeartbeats 12800000 in
theorem sfld_any (k : Nat) (v : Int) (A : Option Addr) (ca : Nat) (sl : List Sp) (h l : Nat) (b : ByteArray) (p0 : Nat) (w : World) (hK : Kinds w) (hI : Spl w A sl) (hn : sl.length ≤ 1000) (hbz : b.size ≤ 1000000) (hk : k = 1 ∨ k = 2) (hs : (schN (k : Int) v sl).1 = 0) (b1 : h < M64) (b2 : l < M64) (hp0 : p0 ≤ b.size) :
    Calls Tryd.prog 20 #[.agg #[.int .i64 (k : Int), .int .i64 v, .slice A sl.length ca], .agg #[.int .u64 (h : Int), .int .u64 (l : Int)], .string b, .int .i64 (p0 : Int)] w fun e w' => FldTo (decF k sl b (zi (listN h l 128)) p0) b w w' e := by
  obtain ⟨i0, hi, hz0, hz1, hz2⟩ := info_parts Tryd.infoVal
  have HN : Hid (∀ (z : Int) (W : World), z ≤ 9223372036854775807 → Calls Tryd.prog 45 #[.agg #[.int .u64 (h : Int), .int .u64 (l : Int)], .int .i64 z] W fun e w' => e = .returned (.int .i64 (nextN h l z : Int)) ∧ Below W.heap.size W w') := fun z W hz => next_any h l z W b1 b2 hz
  have HRN := Lib.hid (fun (m r : Nat) (hm : m ≤ 128) (hr : nextN h l (m : Int) = r) (h0 : r ≠ 0) => rest_next b1 b2 hm hr h0)
  have HRE := Lib.hid (fun (m : Nat) (hm : m ≤ 128) (h0 : nextN h l (m : Int) = 0) => rest_end b1 b2 hm h0)
  have HIS := Lib.hid (fun (z : Int) => next_is b1 b2 z)
  have HLE := Lib.hid (fun (z : Int) => next_le h l b1 b2 z)
  have HF := Lib.hid (fun (no : Int) W hW => sfind_any (k : Int) v A ca sl no W hW hn)
  have HSP : Hid (∀ no : Int, (fndP no sl).2 = true → spkS (fndP no sl).1 = 0) := fun no hf => fnd_right hs hf
  have HGC : Hid (∀ x1 x2 x3 x4 x5 p W, Kinds W → spk x1 x2 x3 x4 x5 = 0 → p ≤ b.size → Calls Tryd.prog 47 #[.int .i64 (k : Int), .agg #[.int .i64 x1, .int .i64 x2, .int .i64 x3, .int .i64 x4, .int .i64 x5], .string b, .int .i64 (p : Int)] W fun e w' => e = .returned (cgetV (cget k x1 x2 x3 x4 x5 b p)) ∧ Below W.heap.size W w') := fun x1 x2 x3 x4 x5 p W hW hx hp => cget_any k p x1 x2 x3 x4 x5 b W hW hk hx hbz hp
  have HT := Lib.hid (ftrio_new w (k : Int) v A sl.length ca h l)
  have HI := Lib.hid (hI.below HT.out.1)
  have HK := Lib.hid (hK.below HT.out.1)
  have HP0 : Hid (p0 ≤ b.size) := hp0
  rw [← rest_all]
  generalize hR : decF k sl b (restN h l 0) p0 = R
  obtain ⟨Rl, Rf⟩ := R
  have HR := Lib.hid hR
  clear hK hI hn hbz hk hs b1 b2 hp0 hR
  generalize sl.length = len at *
  go_enter Tryd.func20, Tryd.ntmps20
  go_wp2_with fail
  generalize ((w.alloc (.cells #[.int .i64 (k : Int), .int .i64 v, .slice A len ca] 24)).alloc (.cells #[.int .u64 (h : Int), .int .u64 (l : Int)] 52)).alloc (.cells #[.int .i64 0, .int .i64 0] 31) = U at *
  refine (HN.out 0 _ (by omega)).mono ?_
  rintro e w1 ⟨rfl, hb1⟩
  have HT1 := Lib.hid (HT.out.below hb1)
  have HI1 := Lib.hid (HI.out.below hb1)
  have HK1 := Lib.hid (HK.out.below hb1)
  generalize hr : nextN h l 0 = r0 at *
  have HR0 : Hid (r0 = nextN h l ((0 : Nat) : Int)) := hr.symm
  clear hb1 hr HT HI HK
  go_wp2_with fail
  go_loopw [3, 11, 12] (fun y x i wr => ∃ (m r p M : Nat) (ks : List Item), (r = nextN h l (m : Int) ∧ m ≤ 128 ∧ M ≤ m ∧ M = ks.length ∧ p ≤ b.size) ∧ y = .int .i64 (p : Int) ∧ i = .int .i64 (r : Int) ∧ (ks ++ (decF k sl b (restN h l m) p).1, (decF k sl b (restN h l m) p).2) = (Rl, Rf) ∧ wr.ownsRow w1.heap.size 42 2 x M (itemsC ks) ∧ Below w1.heap.size w1 wr) (fun _ _ i _ => if intOf i = 0 then 0 else 129 - (intOf i).toNat)
  case atStart => exact ⟨0, r0, p0, 0, [], ⟨HR0.out, by omega, by omega, rfl, HP0.out⟩, rfl, rfl, by rw [HR.out]; rfl, World.ownsRow_nil _ _ _ _, Below.refl _ _⟩
  case round =>
    obtain ⟨m, r, p, M, ks, hf, rfl, rfl, hrest, hown, hb⟩ := hrel
    have HA := Lib.hid hf
    have HO := Lib.hid hown
    have HB := Lib.hid hb
    have HRS := Lib.hid hrest
    have HTR := Lib.hid (HT1.out.below hb)
    have HIR := Lib.hid (HI1.out.below hb)
    have HKR := Lib.hid (HK1.out.below hb)
    have hlt2 := obj_lt HT1.out.2.2.2
    have HL2 : Hid (w.heap.size + 2 < w1.heap.size) := hlt2
    clear hf hown hb hrest hlt2
    by_cases h0 : r = 0
    · subst h0
      have hre := HRE.out m HA.out.2.1 HA.out.1.symm
      have hr := HRS.out
      rw [hre, decF_nil, List.append_nil] at hr
      obtain ⟨h1, h2⟩ := Prod.mk.inj hr
      have H1 : Hid (ks = Rl) := h1
      have H2 : Hid ((if p < b.size then ((12 : Int), (129 : Int)) else (0, 0)) = Rf) := h2
      clear hre hr h1 h2 HRS
      obtain ⟨Y, cp, rfl⟩ := vals_form HO.out HA.out.2.2.2.1
      obtain ⟨c0, c1, c2, c3⟩ := obj_cells HTR.out.2.2.2
      go_wp2
      refine bodyPost_ret (results_tmp2_cell rfl _ _ (w.heap.size + 2) _ _ _ _ rfl (obj_set2 HTR.out.2.2.2 _ _) Tryd.underlying31 rfl (by kernel_rfl)) rfl ?_
      refine ⟨Y, cp, p, 0, 0, ?_, ?_, below_set2 HTR.out.1 (by omega) _ _, Or.inr ⟨rfl, rfl, H2.out⟩⟩
      · show _ = Ending.returned (.tuple #[.slice Y Rl.length cp, .int .i64 (p : Int), .agg #[.int .i64 0, .int .i64 0]])
        rw [← H1.out, ← HA.out.2.2.2.1]
        rfl
      · show Tlvs _ Y Rl
        rw [← H1.out]
        exact vals_own_at (owns_set1 (owns_set1 HO.out HL2.out 0 _) HL2.out 1 _) HA.out.2.2.2.1
    · have hrn := HRN.out m r HA.out.2.1 HA.out.1.symm h0
      have hr := HRS.out
      rw [hrn] at hr
      have hnx := (HIS.out (m : Int)).1 (by rw [← HA.out.1]; exact h0)
      rw [← HA.out.1] at hnx
      have hr8 := HLE.out (m : Int)
      rw [← HA.out.1] at hr8
      have HM8 : Hid (m < r ∧ r ≤ 128) := ⟨by have := hnx.1; omega, hr8⟩
      have hF := HF.out (r : Int)
      have hsp := HSP.out (r : Int)
      have hno := @decF_none k sl b (r : Int) (restN h l r) p
      have hbd := @decF_bad k sl b (r : Int) (restN h l r) p
      have hok := fun (t : ByteArray) (q : Nat) => @decF_ok k sl b t (r : Int) (restN h l r) p q
      have hone := fun (t : ByteArray) (q : Nat) => @cell_one k sl (r : Int) b t p q HA.out.2.2.2.2
      generalize hfe : fndP (r : Int) sl = F at *
      obtain ⟨⟨x1, x2, x3, x4, x5⟩, ok⟩ := F
      have HFN : Hid (∀ W, Spl W A sl → Calls Tryd.prog 46 #[.agg #[.int .i64 (k : Int), .int .i64 v, .slice A len ca], .int .i64 (r : Int)] W fun e w' => e = .returned (.tuple #[.agg #[.int .i64 x1, .int .i64 x2, .int .i64 x3, .int .i64 x4, .int .i64 x5], .bool ok]) ∧ Below W.heap.size W w') := hF
      have HM1 := Lib.hid HA.out.2.2.2.1
      have HPB : Hid (p ≤ b.size) := HA.out.2.2.2.2
      have HMM : Hid (M ≤ 128) := by show _ ≤ _; have := HA.out; omega
      clear hF hnx hr8 hrn HRS
      obtain ⟨b0, b1, b2⟩ := obj_cells3 HTR.out.2.1
      cases ok
      · rw [hno rfl, List.append_nil] at hr
        obtain ⟨h1, h2⟩ := Prod.mk.inj hr
        have H1 : Hid (ks = Rl) := h1
        have H2 : Hid (((9 : Int), (r : Int)) = Rf) := h2
        clear hno hbd hok hone hsp hr h1 h2 hfe
        obtain ⟨Y, cp, rfl⟩ := vals_form HO.out HM1.out
        go_wp2_with fail
        refine (HFN.out _ HIR.out).mono ?_
        rintro e w6 ⟨rfl, hb6⟩
        have HT6 := Lib.hid (HTR.out.below hb6)
        have HO6 := Lib.hid (owns_below HO.out hb6)
        clear hb6 b0 b1 b2
        obtain ⟨c0, c1, c2, c3⟩ := obj_cells HT6.out.2.2.2
        have l2 := obj_lt HT6.out.2.2.2
        go_wp2
        refine bodyPost_ret (results_tmp2_cell rfl _ _ (w.heap.size + 2) _ _ _ _ rfl (obj_below (obj_set2 HT6.out.2.2.2 _ _) (below_al _ _)) Tryd.underlying31 rfl (by kernel_rfl)) rfl ?_
        refine ⟨Y, cp, 0, 9, (r : Int), ?_, ?_, hbt (below_set2 HT6.out.1 (by omega) _ _) (below_al _ _), Or.inl ⟨by decide, H2.out⟩⟩
        · show _ = Ending.returned (.tuple #[.slice Y Rl.length cp, .int .i64 ((0 : Nat) : Int), .agg #[.int .i64 9, .int .i64 (r : Int)]])
          rw [← H1.out, ← HM1.out]
          rfl
        · show Tlvs _ Y Rl
          rw [← H1.out]
          exact (vals_own_at (owns_set1 (owns_set1 HO6.out HL2.out 0 _) HL2.out 1 _) HM1.out).below (below_al _ _)
      · have hx5 : spk x1 x2 x3 x4 x5 = 0 := hsp rfl
        have hcg := fun W hW => HGC.out x1 x2 x3 x4 x5 p W hW hx5 HPB.out
        have hcq : cgetP k (x1, x2, x3, x4, x5) b p = cget k x1 x2 x3 x4 x5 b p := rfl
        unfold cgetV at hcg
        generalize cget k x1 x2 x3 x4 x5 b p = C at *
        obtain ⟨tx, q, ex⟩ := C
        dsimp only at hcg
        have HCG := Lib.hid hcg
        have HCQ := Lib.hid hcq
        have HHR := Lib.hid hr
        have HOK := Lib.hid hok
        have HBD := Lib.hid hbd
        have HONE := Lib.hid hone
        clear hno hcg hcq hr hok hbd hone hsp hx5 hfe
        go_wp2_with fail
        refine (HFN.out _ HIR.out).mono ?_
        rintro e w6 ⟨rfl, hb6⟩
        have hal := hbt hb6 (below_al w6 (.cells #[.int .i64 x1, .int .i64 x2, .int .i64 x3, .int .i64 x4, .int .i64 x5] 67))
        have HT6 := Lib.hid (HTR.out.below hal)
        have HO6 := Lib.hid (owns_below HO.out hal)
        have HK6 := Lib.hid (HKR.out.below hal)
        have HB6 := Lib.hid (HB.out.trans (hal.mono HB.out.size))
        clear b0 b1 b2
        obtain ⟨b0, b1, b2⟩ := obj_cells3 (HTR.out.below hb6).2.1
        have l1 := obj_lt (HTR.out.below hb6).2.1
        clear hal hb6
        go_wp2_with fail
        generalize w6.alloc (.cells #[.int .i64 x1, .int .i64 x2, .int .i64 x3, .int .i64 x4, .int .i64 x5] 67) = W6 at *
        clear b0 b1 b2 l1
        refine (HCG.out _ HK6.out).mono ?_
        rintro e w7 ⟨rfl, hb7⟩
        have HT7 := Lib.hid (HT6.out.below hb7)
        have HO7 := Lib.hid (owns_below HO6.out hb7)
        have HB7 := Lib.hid (HB6.out.trans (hb7.mono HB6.out.size))
        clear hb7 HT6 HO6 HK6 HB6
        by_cases hex : ex = 0
        · subst hex
          have hcn := HONE.out tx q (by trivial) HCQ.out
          have hdo := HOK.out tx q (by trivial) HCQ.out
          have hr := HHR.out
          rw [hdo] at hr
          have HQB := Lib.hid hcn.2.1
          have HR2 : Hid ((ks ++ [((r : Int), tx)] ++ (decF k sl b (restN h l r) q).1, (decF k sl b (restN h l r) q).2) = (Rl, Rf)) := by
            show _ = _
            rw [← hr, List.append_assoc]
            rfl
          clear hcn hdo hr HHR HOK HBD HONE HCQ
          have hm8 : M ≤ 128 := HMM.out
          have h7 := HB7.out.size
          have hl2 := HL2.out
          go_wp2_with (at_builtin; refine wpList_append_lies _ rfl _ _ _ rfl w1.heap.size 42 i0 _ 2 24 Tryd.underlying26 hi hz0 hz1 hz2 rfl (by omega) _ M (itemsC ks) rfl (HO7.out.alloc _) ⟨w7.heap.size, 0, none⟩ 1 1 (itemC ((r : Int), tx)) rfl rfl (World.news_of_block (cs := #[.int .i64 (r : Int), .string tx]) (t := 42) (fr := (0, 0)) (heap_alloc_new w7 _)) (by simp [itemC, Value.oneCell']) (by omega) (by unfold maxLen; omega) (by omega) (by simp; omega) (w7.heap.size + 1) (by simp) ?_; intro g' cap' w8 hown8 hgrow8 hat8 hlt8; have hbB : Below w1.heap.size w7 w8 := ((Below.refl _ _).alloc h7 _).grown hgrow8 (by simp; omega) (fun q hq => (HO7.out.lt q hq).1); obtain ⟨d0, d1, _, _⟩ := obj_cells ((hbB.block (w.heap.size + 1) (by omega)).trans HT7.out.2.2.1); have HO8 := Lib.hid hown8; have HB8 := Lib.hid (HB7.out.trans hbB); clear hown8 hgrow8 hat8 hlt8 hbB)
          refine (HN.out (r : Int) _ (by have := HM8.out; omega)).mono ?_
          rintro e w9 ⟨rfl, hb9⟩
          have HO9 := Lib.hid (owns_below HO8.out hb9)
          have HB9 := Lib.hid (HB8.out.trans (hb9.mono HB8.out.size))
          have hnn := (HIS.out (r : Int)).1
          generalize hr' : nextN h l (r : Int) = r' at *
          have HR' := Lib.hid hr'
          have HNN : Hid (r' ≠ 0 → r < r') := fun hh => by have := (hnn hh).1; omega
          clear hb9 hnn hr' d0 d1 hm8 h7 hl2
          go_wp2
          go_roundw
          case rel => exact ⟨r, r', q, M + 1, ks ++ [((r : Int), tx)], ⟨HR'.out.symm, HM8.out.2, by have := HA.out; have := HM8.out; omega, by rw [List.length_append, ← HM1.out]; rfl, HQB.out⟩, by go_num, by go_num, HR2.out, by rw [itemsC_snoc]; exact HO9.out, HB9.out⟩
          case measure =>
            have := HNN.out
            have := HM8.out
            simp [intOf]
            by_cases h9 : r' = 0
            · simp [h9, h0]; omega
            · have := HNN.out h9
              simp [h9, h0]; omega
        · have tex : (ex != 0) = true := by simpa using hex
          have hdb := HBD.out (by trivial) (by rw [HCQ.out]; exact hex)
          have hr := HHR.out
          rw [hdb, HCQ.out, List.append_nil] at hr
          obtain ⟨h1, h2⟩ := Prod.mk.inj hr
          have H1 : Hid (ks = Rl) := h1
          have H2 : Hid ((ex, (r : Int)) = Rf) := h2
          have HEX : Hid (ex ≠ 0) := hex
          clear hdb hr h1 h2 HHR HOK HBD HONE HCQ hex
          obtain ⟨Y, cp, rfl⟩ := vals_form HO7.out HM1.out
          obtain ⟨c0, c1, c2, c3⟩ := obj_cells HT7.out.2.2.2
          go_wp2
          refine bodyPost_ret (results_tmp2_cell rfl _ _ (w.heap.size + 2) _ _ _ _ rfl (obj_set2 HT7.out.2.2.2 _ _) Tryd.underlying31 rfl (by kernel_rfl)) rfl ?_
          refine ⟨Y, cp, 0, ex, (r : Int), ?_, ?_, below_set2 HT7.out.1 (by omega) _ _, Or.inl ⟨HEX.out, H2.out⟩⟩
          · show _ = Ending.returned (.tuple #[.slice Y Rl.length cp, .int .i64 ((0 : Nat) : Int), .agg #[.int .i64 ex, .int .i64 (r : Int)]])
            rw [← H1.out, ← HM1.out]
            rfl
          · show Tlvs _ Y Rl
            rw [← H1.out]
            exact vals_own_at (owns_set1 (owns_set1 HO7.out HL2.out 0 _) HL2.out 1 _) HM1.out

end Go.Proofs.YtlkpiapmdflahaaDoor
