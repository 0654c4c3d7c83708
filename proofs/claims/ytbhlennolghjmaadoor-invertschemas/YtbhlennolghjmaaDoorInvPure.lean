/-
  What follows of maps by which nothing gets lost: what is made becomes itself again; what becomes something. (Plain functions.)
-/
import Derived.Test.YtbhlennolghjmaaDoorInvMath
namespace Go.Proofs.YtbhlennolghjmaaDoor

theorem zs_noughts (k : Nat) : zs (List.replicate k 48) = true := by
  unfold zs
  rw [List.all_eq_true]
  intro c hc
  rw [(List.mem_replicate.1 hc).2]
  decide
/-- A fixed length's digits: how many a value has. -/
theorem fixed_in {x : Sp} {u : ByteArray} (hr : rlR x = true) (hv : rlV x u = 0) : 1 ≤ x.2.2.2.1 ∧ x.2.2.2.1 ≤ 999 ∧ (u.data.toList.length : Int) = x.2.2.2.1 ∧ allD u.data.toList = true := by
  obtain ⟨n, c, f, lo, hi⟩ := x
  unfold rlR at hr
  simp only [Bool.and_eq_true, beq_iff_eq] at hr
  obtain ⟨rfl, rfl⟩ := hr
  have hv' : spv n 1 1 lo hi u = 0 := hv
  obtain ⟨hk, hz, hf, _⟩ := spv_in hv'
  obtain ⟨_, h1, h2, h3⟩ := spk_in hk
  have hlen : lo = hi := by
    by_cases e : lo = hi
    · exact e
    · have hn := spk_no hk
      rw [spk_range (by omega) (by decide) (by omega) (by rw [lenB_one ⟨h1, h2, h3⟩]; simpa using e)] at hk
      cases hk
  subst hlen
  have hul : u.data.toList.length = u.size := by simp
  exact ⟨h1, h3, by show (u.data.toList.length : Int) = lo; omega, digits_fst hf⟩
theorem fixed_spec {x : Sp} (hr : rlR x = true) (hs : spkS x = 0) : 1 ≤ x.2.2.2.1 ∧ x.2.2.2.1 ≤ 999 := by
  obtain ⟨n, c, f, lo, hi⟩ := x
  unfold rlR at hr
  simp only [Bool.and_eq_true, beq_iff_eq] at hr
  obtain ⟨rfl, rfl⟩ := hr
  have hk : spk n 1 1 lo hi = 0 := hs
  obtain ⟨_, h1, h2, h3⟩ := spk_in hk
  exact ⟨h1, by show lo ≤ 999; omega⟩
/-- Padded to at least as many digits: it goes, and padded back it is itself. -/
theorem pad_back {x y : Sp} {u : ByteArray} (hx : rlR x = true) (hy : rlR y = true) (hs : spkS y = 0) (hle : x.2.2.2.1 ≤ y.2.2.2.1) (hv : rlV x u = 0) :
    padB u.data.toList y.2.2.2.1 = true ∧ padB (padS u.data.toList y.2.2.2.1).data.toList x.2.2.2.1 = true ∧ padS (padS u.data.toList y.2.2.2.1).data.toList x.2.2.2.1 = u := by
  obtain ⟨a1, a2, a3, a4⟩ := fixed_in hx hv
  obtain ⟨b1, b2⟩ := fixed_spec hy hs
  generalize x.2.2.2.1 = p at *
  generalize y.2.2.2.1 = q at *
  have hA : padA u.data.toList q = true := padA_yes (by omega) (by omega) a4 b1 b2
  have hB : padB u.data.toList q = true := by
    rw [padB_eq hA, show u.data.toList.length - q.toNat = 0 by omega]
    rfl
  have hL : padL u.data.toList q = List.replicate (q.toNat - p.toNat) 48 ++ u.data.toList := by
    unfold padL
    rw [show u.data.toList.length - q.toNat = 0 by omega, show q.toNat - u.data.toList.length = q.toNat - p.toNat by omega]
    rfl
  have hS : (padS u.data.toList q).data.toList = List.replicate (q.toNat - p.toNat) 48 ++ u.data.toList := by
    rw [padS_yes hB]
    show (padL u.data.toList q).toArray.toList = _
    rw [List.toList_toArray, hL]
  have hd : allD (List.replicate (q.toNat - p.toNat) 48 ++ u.data.toList) = true := by rw [← hL]; exact padL_digits a4
  rw [hS]
  have hn : (List.replicate (q.toNat - p.toNat) (48 : UInt8) ++ u.data.toList).length = q.toNat := by rw [List.length_append, List.length_replicate]; omega
  have hA2 : padA (List.replicate (q.toNat - p.toNat) 48 ++ u.data.toList) p = true := padA_yes (by rw [hn]; omega) (by rw [hn]; omega) hd a1 a2
  have hB2 : padB (List.replicate (q.toNat - p.toNat) 48 ++ u.data.toList) p = true := by
    rw [padB_eq hA2, hn, List.take_append_of_le_length (by rw [List.length_replicate]; exact Nat.le_refl _), List.take_of_length_le (by rw [List.length_replicate]; exact Nat.le_refl _)]
    exact zs_noughts _
  refine ⟨hB, hB2, ?_⟩
  rw [padS_yes hB2]
  apply bs_ext
  show (padL _ p).toArray.toList = _
  rw [List.toList_toArray]
  unfold padL
  rw [hn, show p.toNat - q.toNat = 0 by omega, List.drop_append_of_le_length (by rw [List.length_replicate]; exact Nat.le_refl _), List.drop_of_length_le (by rw [List.length_replicate]; exact Nat.le_refl _)]
  rfl

section
variable {st v : Int} {a : List Sp} {st' v' : Int} {b : List Sp} {M : List PairT} {R : List Ru} {m : ByteArray} {l : List Item}

theorem con_none (h : ∀ r ∈ R, ruInv a b r = true) : xcon R = [] := by
  unfold xcon
  have : (R.filter fun r => decide (r.1 = 3)) = [] := by
    rw [List.filter_eq_nil_iff]
    intro r hr g
    exact (ruInv_in (h r hr)).2.1 (by simpa using g)
  rw [this]; rfl
theorem con_none_turn (h : ∀ r ∈ R, ruInv a b r = true) : xcon (turnRs R) = [] := by
  unfold xcon
  have : ((turnRs R).filter fun r => decide (r.1 = 3)) = [] := by
    rw [List.filter_eq_nil_iff]
    intro r hr g
    simp only [turnRs, List.mem_map] at hr
    obtain ⟨q, hq, rfl⟩ := hr
    exact (ruInv_in (h q hq)).2.1 (of_decide_eq_true g)
  rw [this]; rfl
/-- What a field becomes becomes itself again. -/
theorem inv_one (h : invB st v a st' v' b M R = true) {x : Item} (hx : okV a x) (he : (xone b R x).2.2 = 0) : okV b (xval b R x) ∧ xone a (turnRs R) (xval b R x) = (x.1, x.2, 0) := by
  obtain ⟨h1, h2, h3⟩ := invB_in h
  obtain ⟨ha, hb, _⟩ := xlt_zero h1
  have hR := xr_of h1
  obtain ⟨i, hi, hri, hfi, hval⟩ := xone_rule hR hb hx he
  have hinv := ruInv_in (inv_at h3 hi)
  rcases hval with ⟨g, _⟩ | ⟨hk, hto, hok⟩
  · exact absurd g hinv.1
  · refine ⟨hok, ?_⟩
    have hno := okV_range hb hok
    have hri2 : ruI (xval b R x).1 (turnRs R) = some i := by
      refine ruI_hit (by rw [turnRs_len]; exact hi) (fun j hj e => ?_) ?_
      · rw [turnRs_at (by omega)] at e
        have := (hR.apart hi (show j < R.length by omega) (by omega)).2 (by rw [← hto]; omega)
        exact this (by rw [← hto]; exact e.symm)
      · rw [turnRs_at hi]; exact hto.symm
    rw [one_some hri2, turnRs_at hi]
    have hxe : xone b R x = ruT b (ruAt R i) x.2 := one_some hri
    have hrn := hR.1 i hi
    unfold xval
    rw [hxe] at he ⊢
    generalize ruAt R i = r at *
    obtain ⟨k, f, t, s, P⟩ := r
    have hfi : f = x.1 := hfi
    subst hfi
    obtain ⟨h0, r1, r2, _, r4⟩ := rulN_zero (show rulN k x.1 t s P a b = 0 from hrn)
    obtain ⟨n2, n3, i1, i4, i5⟩ := hinv
    have n2 : k ≠ 2 := n2
    have n3 : k ≠ 3 := n3
    show rapN k x.1 s (turnL P) a (rapN k t s P b x.2).2.1 = (x.1, x.2, 0)
    have he' : (rapN k t s P b x.2).2.2 = 0 := he
    have hA : (fndP x.1 a).2 = true := hx.1
    have hB : (fndP t b).2 = true := by simpa [rlB, n2] using r2
    rcases kind_cases h0 with rfl | rfl | rfl | rfl | rfl
    · rfl
    · exact absurd rfl n2
    · exact absurd rfl n3
    · have hle : (fndP x.1 a).1.2.2.2.1 ≤ (fndP t b).1.2.2.2.1 := i4 rfl
      have h5 : (if rlR (fndP x.1 a).1 && rlR (fndP t b).1 then (0 : Int) else 6) = 0 := r4
      have hrr : rlR (fndP x.1 a).1 = true ∧ rlR (fndP t b).1 = true := by
        cases e1 : rlR (fndP x.1 a).1 <;> cases e2 : rlR (fndP t b).1 <;> rw [e1, e2] at h5 <;> first | exact ⟨rfl, rfl⟩ | cases h5
      have hsp : spkS (fndP t b).1 = 0 := (right_rise hb).right _ (fnd_no t b hB).2
      obtain ⟨p1, p2, p3⟩ := pad_back hrr.1 hrr.2 hsp hle hx.2
      have hin : rapN 4 t s P b x.2 = (t, padS x.2.data.toList (fndP t b).1.2.2.2.1, 0) := by rw [rap_4, if_neg (by simp [hB]), if_neg (by simp [p1])]
      rw [hin, rap_4]
      dsimp only
      rw [if_neg (by simp [hA]), if_neg (by simp [p2]), p3]
    · rw [rap_5] at he'
      by_cases e : appB P x.2 = false
      · rw [if_pos e] at he'; cases he'
      · have e' : appB P x.2 = true := by simpa using e
        obtain ⟨q1, q2⟩ := bij_back (i5 rfl) e'
        have q1 : appS (turnL P) (appS P x.2) = x.2 := q1
        have q2 : appB (turnL P) (appS P x.2) = true := q2
        have hin : rapN 5 t s P b x.2 = (t, appS P x.2, 0) := by rw [rap_5, if_neg e]
        rw [hin, rap_5]
        dsimp only
        rw [if_neg (by simp [q2]), q1]
/-- P22.3: whatever becomes something becomes itself again. -/
theorem inv_back (h : invB st v a st' v' b M R = true) (hm : msgN st v a m l = (0, 0)) (hp : appB M m = true) (he : (xerr b R l).1 = 0) :
    xltT st' v' b st v a (turnL M) (turnRs R) (appS M m) (xsort (xmade b R l ++ xcon R)) = (m, l, (0, 0)) := by
  obtain ⟨h1, h2, h3⟩ := invB_in h
  obtain ⟨ha, hb, _⟩ := xlt_zero h1
  have hT : (xltN st' v' b st v a (turnL M) (turnRs R)).1 = 0 := by rw [inv_turn h]
  have hmsg := xlt_valid h1 hm hp he
  obtain ⟨q1, q2⟩ := bij_back h2 hp
  obtain ⟨_, _, hl⟩ := valid_in hm
  obtain ⟨_, _, hy⟩ := valid_in hmsg
  have hez := xerr_zero he
  have hfit := fits_in hl
  have hcon := con_none h3
  rw [hcon, List.append_nil] at hmsg hy ⊢
  have hback : ∀ y ∈ xsort (xmade b R l), ∃ x ∈ l, y = xval b R x ∧ xone a (turnRs R) y = (x.1, x.2, 0) := by
    intro y hy
    have hy2 := (mem_sort.1 hy).1
    simp only [xmade, List.mem_map] at hy2
    obtain ⟨x, hx, rfl⟩ := hy2
    exact ⟨x, hx, rfl, (inv_one h (hfit x hx) (hez x hx)).2⟩
  have he2 : (xerr a (turnRs R) (xsort (xmade b R l))).1 = 0 := by
    rw [xerr_all fun y hy => ?_]
    obtain ⟨x, _, _, e⟩ := hback y hy
    rw [e]
  rw [xt_ok hT (by rw [hmsg]) q2 he2, q1]
  congr 2
  have hRT := xr_of hT
  have hf2 := sort_fits (vals_good hRT ha hy he2) (xvals_apart hRT ha hy he2) 127 2 (by omega)
  refine rise_same (fits_up hf2).2 (fits_up hl).2 fun z => ?_
  rw [mem_sort, con_none_turn h3, List.append_nil]
  constructor
  · rintro ⟨hz, _, _⟩
    rw [xmade, List.mem_map] at hz
    obtain ⟨y, hy, rfl⟩ := hz
    obtain ⟨x, hx, _, e⟩ := hback y hy
    unfold xval
    rw [e]
    exact hx
  · intro hz
    have hrng := okV_range ha (hfit z hz)
    obtain ⟨o1, o2⟩ := inv_one h (hfit z hz) (hez z hz)
    have hrb := okV_range hb o1
    refine ⟨?_, hrng.1, hrng.2⟩
    rw [xmade, List.mem_map]
    refine ⟨xval b R z, mem_sort.2 ⟨?_, hrb.1, hrb.2⟩, ?_⟩
    · rw [xmade, List.mem_map]; exact ⟨z, hz, rfl⟩
    · show (((xone a (turnRs R) (xval b R z)).1, (xone a (turnRs R) (xval b R z)).2.1) : Item) = z
      rw [o2]
end

end Go.Proofs.YtbhlennolghjmaaDoor
