/-
  What the document's Put answers: for every text, in every world.
-/
import Derived.Test.YtafcdokgjkfikaaBcdPut
import Derived.Deep.AppendLies
namespace Go.Proofs.Ytafcdokgjkfikaa
open Go.RowKit

theorem brefPut_no (s : ByteArray) (w : World) (hs : s.size ≤ maxLen) (h : bputB s.data.toList = false) :
    Calls Try.prog 20 #[.string s] w fun e w' => e = .returned (.tuple #[.string ⟨#[]⟩, .bool false]) ∧ Below w.heap.size w w' := by
  have hs' := hs
  unfold maxLen at hs
  by_cases h1 : 999 < s.size
  · have t1 : decide ((999 : Int) < (s.size : Int)) = true := by simp; omega
    clear h
    go_enter Try.func20, Try.ntmps20
    go_wp2
    go_ret2
    exact ⟨rfl, Below.refl _ _⟩
  · have t1 : decide ((999 : Int) < (s.size : Int)) = false := by simp; omega
    have hd : allD s.data.toList = false := by
      cases hd : allD s.data.toList
      · rfl
      · rw [bputB_yes (by simp; omega) hd] at h; cases h
    have HA := Lib.hid (fun w => refAll_any s w hs')
    rw [hd] at HA
    clear h hd hs'
    go_enter Try.func20, Try.ntmps20
    go_wp2_with fail
    refine (HA.out _).mono ?_
    rintro e w1 ⟨rfl, rfl⟩
    go_wp2_with fail
    go_ret2
    exact ⟨rfl, Below.refl _ _⟩

theorem xb_of (n : Nat) (h : n < 256) : xb (UInt8.ofNat n) = .int .u8 (n : Int) := by
  unfold xb; rw [UInt8.toNat_ofNat', Nat.mod_eq_of_lt h]

/-- The round's relation. -/
def RefRel (s : ByteArray) (w : World) (v half i : Value) (wr : World) : Prop :=
  ∃ k cap : Nat, ∃ g, k ≤ s.size ∧ i = .int .i64 (k : Int) ∧ half = .int .i64 (((k + s.size % 2) % 2 : Nat) : Int) ∧ v = .slice (some ⟨g, 0, none⟩) ((k + s.size % 2 + 1) / 2) cap ∧
    wr.ownsRow w.heap.size 5 1 (.slice (some ⟨g, 0, none⟩) ((k + s.size % 2 + 1) / 2) cap) ((k + s.size % 2 + 1) / 2) ((rcL s.data.toList (k + s.size % 2)).map xb) ∧ Below w.heap.size w wr

set_option maxHeartbeats 1600000 in
theorem brefPut_yes (s : ByteArray) (w : World) (h : bputB s.data.toList = true) :
    Calls Try.prog 20 #[.string s] w fun e w' => e = .returned (.tuple #[.string ⟨(packL s.data.toList).toArray⟩, .bool true]) ∧ Below w.heap.size w w' := by
  obtain ⟨i0, hi, hz0, hz1, hz2⟩ := info_parts Try.infoX8
  have hsz : s.data.toList.length = s.size := by simp
  have hle : s.size ≤ 999 := by unfold bputB at h; simp at h; exact h.1
  have hd : allD s.data.toList = true := by unfold bputB at h; simp at h; exact h.2
  have t1 : decide ((999 : Int) < (s.size : Int)) = false := by simp; omega
  have HA := Lib.hid (fun w => refAll_any s w (by unfold maxLen; omega))
  rw [hd] at HA
  have HD := Lib.hid hd
  have HO : Hid ((w.alloc (.cells #[] 5)).ownsRow w.heap.size 5 1 (.slice (some ⟨w.heap.size, 0, none⟩) 0 0) 0 []) := World.ownsRow_lit w #[] 0 (Nat.le_refl _) (by unfold maxLen; omega) rfl
  clear h hd
  by_cases hodd : s.size % 2 = 1
  · have hodd' : (s.size : Int) % 2 = 1 := by omega
    have hnew : ((w.alloc (.cells #[] 5)).alloc (.cells #[.int .u8 0] 5)).heap[w.heap.size + 1]? = some (.cells #[.int .u8 0] 5) := by
      have h := heap_alloc_new (w.alloc (.cells #[] 5)) (.cells #[.int .u8 0] 5)
      rwa [show (w.alloc (.cells #[] 5)).heap.size = w.heap.size + 1 from by simp] at h
    have HN := Lib.hid hnew
    clear hnew
    go_enter Try.func20, Try.ntmps20
    go_wp2_with fail
    refine (HA.out _).mono ?_
    rintro e w1 ⟨rfl, rfl⟩
    go_wp2_with (at_builtin; refine wpList_append_lies _ rfl _ _ _ rfl w.heap.size 5 i0 _ 1 1 Try.underlying49 hi hz0 hz1 hz2 rfl (by omega) (.slice (some ⟨w.heap.size, 0, none⟩) 0 0) 0 [] rfl (HO.out.alloc _) ⟨w.heap.size + 1, 0, none⟩ 1 1 [.int .u8 0] rfl rfl (World.news_of_block (cs := #[.int .u8 0]) (t := 5) (fr := (0, 0)) HN.out) (by simp [Value.oneCell']) (by omega) (by unfold maxLen; omega) (by omega) (by simp; omega) (w.heap.size + 2) (by simp) ?_; intro g' cap' w2 hown2 hgrow hat hlt2)
    have hb2 : Below w.heap.size w w2 := (((Below.refl _ _).alloc (Nat.le_refl _) _).alloc (by simp) _).grown hgrow (by simp; omega) (by intro q hq; simp [Value.ownBlock] at hq; omega)
    have HW2 := Lib.hid hown2; clear hown2 hgrow hat hlt2
    go_wp2
    go_loopw [4, 5, 6] (RefRel s w) (fun _ _ i _ => s.size - (intOf i).toNat)
    case atStart => exact ⟨0, cap', g', Nat.zero_le _, rfl, by rw [Nat.zero_add, hodd]; rfl, by rw [Nat.zero_add, hodd], by rw [Nat.zero_add, hodd, rcL_one _ (by omega)]; exact HW2.out, hb2⟩
    case round =>
      obtain ⟨k, cap, g, hk, rfl, rfl, rfl, hown, hb⟩ := hrel
      by_cases hlt : k < s.size
      · have hvk : hvL s.data.toList (k + s.size % 2) = dv s[k] := by
          rw [show s.size % 2 = s.data.toList.length % 2 from by rw [hsz]]
          exact hvL_at s.data.toList k (by omega)
        have hdg : isD s[k] = true := by
          have := allD_getD HD.out k
          rwa [getD_in _ _ _ (by omega)] at this
        have hdv := dv_lt hdg
        have hd48 : (48 : Int) ≤ (s[k].toNat : Int) ∧ (s[k].toNat : Int) - 48 = ((dv s[k] : Nat) : Int) := by rw [isD_iff] at hdg; unfold dv; omega
        have hix := ix_str s k hlt
        clear hdg
        have hjle : k + s.size % 2 ≤ 1000 := by omega
        have hjn : k + 1 + s.size % 2 = (k + s.size % 2) + 1 := by omega
        have HN : Hid (k + 1 + s.size % 2 = (k + s.size % 2) + 1) := hjn
        clear hjn
        generalize k + s.size % 2 = j at *
        generalize s[k] = c at *
        have h48 := hd48.1
        have hsub := hd48.2
        clear hd48
        have hbz := hb.size
        rcases Nat.mod_two_eq_zero_or_one j with hpar | hpar
        · have hst := rcL_even s.data.toList j hpar
          rw [hvk] at hst
          have HS := Lib.hid hst
          have HP := Lib.hid hpar
          rw [hpar]
          have hmul : IntKind.u8.wrap (16 * ((dv c : Nat) : Int)) = 16 * ((dv c : Nat) : Int) := IntWalk.u8_in _ (by omega)
          have HW := Lib.hid hown
          clear hst hown hvk hpar
          generalize hn : (j + 1) / 2 = n at *
          go_wp2_with (at_builtin; refine wpList_append_lies _ rfl _ _ _ rfl w.heap.size 5 i0 _ 1 1 Try.underlying49 hi hz0 hz1 hz2 rfl (by omega) (.slice (some ⟨g, 0, none⟩) n cap) n _ rfl (HW.out.alloc _) ⟨wr.heap.size, 0, none⟩ 1 1 [.int .u8 (16 * ((dv c : Nat) : Int))] rfl rfl (World.news_of_block (cs := #[.int .u8 (16 * ((dv c : Nat) : Int))]) (t := 5) (fr := (0, 0)) (heap_alloc_new wr _)) (by simp [Value.oneCell']) (by omega) (by unfold maxLen; omega) (by omega) (by simp; omega) (wr.heap.size + 1) (by simp) ?_; intro g' cap' w2 hown2 hgrow hat hlt2)
          have hb2 : Below w.heap.size w w2 := (hb.alloc hbz _).grown hgrow (by simp; omega) (by intro q hq; have := own_base HW.out; simp [Value.ownBlock] at hq; omega)
          have HW2 := Lib.hid hown2; clear hown2 hgrow hat hlt2
          go_wp2
          go_roundw
          case rel =>
            have hp := HP.out
            refine ⟨k + 1, cap', g', by omega, by go_num, by rw [HN.out, show (j + 1) % 2 = 1 from by omega]; rfl, by rw [HN.out, show (j + 1 + 1) / 2 = n + 1 from by omega], ?_, hb2⟩
            rw [HN.out, show (j + 1 + 1) / 2 = n + 1 from by omega, HS.out, List.map_append, List.map_cons, List.map_nil, xb_of _ (by omega)]
            exact HW2.out
          case measure => simp [intOf]; omega
        · have hold := rcN_odd s.data.toList j hpar
          have hset := rcL_odd s.data.toList j hpar
          have hq1 := hvL_lt HD.out (j - 1)
          rw [hvk, hold] at hset
          generalize hvL s.data.toList (j - 1) = q at *
          have hjn : (j + 1) / 2 = j / 2 + 1 := by omega
          rw [hjn] at hown
          have hcell := hown.cellAt (j / 2) (by omega)
          rw [List.getElem?_map, show (rcL s.data.toList j)[j / 2]? = some (UInt8.ofNat (16 * q)) from by
            unfold rcL; rw [List.getElem?_map, List.getElem?_range (by omega), ← hold]; rfl, show (Option.map xb (some (UInt8.ofNat (16 * q)))) = some (.int .u8 (16 * (q : Int))) from by rw [Option.map_some, xb_of _ (by omega)]; simp] at hcell
          have hfro := hown.frozenAt (j / 2)
          have hstd := hown.stored (j / 2) (xb (UInt8.ofNat (16 * q + dv c)))
          rw [← List.map_set, hset, xb_of _ (by omega)] at hstd
          rw [hpar, hjn]
          have HP := Lib.hid hpar
          have HS := Lib.hid hstd
          have HW := Lib.hid hown
          clear hstd hown hvk hpar hset hold hjn
          generalize hp : j / 2 = p at *
          have hsum : IntKind.u8.wrap (16 * (q : Int) + ((dv c : Nat) : Int)) = 16 * (q : Int) + ((dv c : Nat) : Int) := IntWalk.u8_in _ (by omega)
          go_wp2
          go_roundw
          case rel =>
            have hp2 := HP.out
            have hs1 := HS.out
            have ec : ((16 * q + dv c : Nat) : Int) = 16 * (q : Int) + ((dv c : Nat) : Int) := by omega
            rw [ec] at hs1
            refine ⟨k + 1, cap, g, by omega, by go_num, by rw [HN.out, show (j + 1) % 2 = 0 from by omega]; rfl, by rw [HN.out, show (j + 1 + 1) / 2 = p + 1 from by omega], ?_, ?_⟩
            · rw [HN.out, show (j + 1 + 1) / 2 = p + 1 from by omega]
              exact hs1.1
            · exact hb.grown hs1.2 hbz (by intro x hx; have := own_base HW.out; simp at hx; omega)
          case measure => simp [intOf]; omega
      · have hkn : k = s.size := by omega
        subst hkn
        have hn : (s.size + s.size % 2 + 1) / 2 = (s.size + 1) / 2 := by omega
        rw [hn] at hown ⊢
        have hcv : (convert 49 9 (.slice (some ⟨g, 0, none⟩) ((s.size + 1) / 2) cap)).run Try.prog wr = .ok (.string ⟨(packL s.data.toList).toArray⟩) wr := by
          have hl : rcL s.data.toList (s.size + s.size % 2) = packL s.data.toList := by
            have := rcL_end s.data.toList
            rwa [hsz] at this
          have hlen : (packL s.data.toList).length = (s.size + 1) / 2 := by rw [packL_length, hsz]
          have h := run_convert_bytes_back (P := Try.prog) wr 49 9 5 ⟨g, 0, none⟩ cap (packL s.data.toList) Try.underlying49 Try.underlying5 Try.underlying9 (by
            intro i hi
            rw [hl] at hown
            have hc := hown.cellAt i (by omega)
            rw [show (⟨g, 0, none⟩ : Addr).add i = ⟨g, i, none⟩ from by rw [Addr.add_lit, Nat.zero_add], hc]
            simp [xb, hi])
          rw [hlen] at h
          exact h
        clear hown
        generalize (s.size + 1) / 2 = n at *
        go_wp2
        go_ret2
        exact ⟨rfl, hb⟩
  · have hodd' : (s.size : Int) % 2 = 0 := by omega
    go_enter Try.func20, Try.ntmps20
    go_wp2_with fail
    refine (HA.out _).mono ?_
    rintro e w1 ⟨rfl, rfl⟩
    go_wp2
    have HE := Lib.hid hodd'
    clear hodd'
    go_loopw [4, 5, 6] (RefRel s w) (fun _ _ i _ => s.size - (intOf i).toNat)
    case atStart => exact ⟨0, 0, w.heap.size, Nat.zero_le _, rfl, by rw [HE.out, Nat.zero_add, show s.size % 2 = 0 from by omega]; rfl, by rw [Nat.zero_add, show s.size % 2 = 0 from by omega], by rw [Nat.zero_add, show s.size % 2 = 0 from by omega, rcL_zero]; exact HO.out, (Below.refl _ _).alloc (Nat.le_refl _) _⟩
    case round =>
      obtain ⟨k, cap, g, hk, rfl, rfl, rfl, hown, hb⟩ := hrel
      by_cases hlt : k < s.size
      · have hvk : hvL s.data.toList (k + s.size % 2) = dv s[k] := by
          rw [show s.size % 2 = s.data.toList.length % 2 from by rw [hsz]]
          exact hvL_at s.data.toList k (by omega)
        have hdg : isD s[k] = true := by
          have := allD_getD HD.out k
          rwa [getD_in _ _ _ (by omega)] at this
        have hdv := dv_lt hdg
        have hd48 : (48 : Int) ≤ (s[k].toNat : Int) ∧ (s[k].toNat : Int) - 48 = ((dv s[k] : Nat) : Int) := by rw [isD_iff] at hdg; unfold dv; omega
        have hix := ix_str s k hlt
        clear hdg
        have hjle : k + s.size % 2 ≤ 1000 := by omega
        have hjn : k + 1 + s.size % 2 = (k + s.size % 2) + 1 := by omega
        have HN : Hid (k + 1 + s.size % 2 = (k + s.size % 2) + 1) := hjn
        clear hjn
        generalize k + s.size % 2 = j at *
        generalize s[k] = c at *
        have h48 := hd48.1
        have hsub := hd48.2
        clear hd48
        have hbz := hb.size
        rcases Nat.mod_two_eq_zero_or_one j with hpar | hpar
        · have hst := rcL_even s.data.toList j hpar
          rw [hvk] at hst
          have HS := Lib.hid hst
          have HP := Lib.hid hpar
          rw [hpar]
          have hmul : IntKind.u8.wrap (16 * ((dv c : Nat) : Int)) = 16 * ((dv c : Nat) : Int) := IntWalk.u8_in _ (by omega)
          have HW := Lib.hid hown
          clear hst hown hvk hpar
          generalize hn : (j + 1) / 2 = n at *
          go_wp2_with (at_builtin; refine wpList_append_lies _ rfl _ _ _ rfl w.heap.size 5 i0 _ 1 1 Try.underlying49 hi hz0 hz1 hz2 rfl (by omega) (.slice (some ⟨g, 0, none⟩) n cap) n _ rfl (HW.out.alloc _) ⟨wr.heap.size, 0, none⟩ 1 1 [.int .u8 (16 * ((dv c : Nat) : Int))] rfl rfl (World.news_of_block (cs := #[.int .u8 (16 * ((dv c : Nat) : Int))]) (t := 5) (fr := (0, 0)) (heap_alloc_new wr _)) (by simp [Value.oneCell']) (by omega) (by unfold maxLen; omega) (by omega) (by simp; omega) (wr.heap.size + 1) (by simp) ?_; intro g' cap' w2 hown2 hgrow hat hlt2)
          have hb2 : Below w.heap.size w w2 := (hb.alloc hbz _).grown hgrow (by simp; omega) (by intro q hq; have := own_base HW.out; simp [Value.ownBlock] at hq; omega)
          have HW2 := Lib.hid hown2; clear hown2 hgrow hat hlt2
          go_wp2
          go_roundw
          case rel =>
            have hp := HP.out
            refine ⟨k + 1, cap', g', by omega, by go_num, by rw [HN.out, show (j + 1) % 2 = 1 from by omega]; rfl, by rw [HN.out, show (j + 1 + 1) / 2 = n + 1 from by omega], ?_, hb2⟩
            rw [HN.out, show (j + 1 + 1) / 2 = n + 1 from by omega, HS.out, List.map_append, List.map_cons, List.map_nil, xb_of _ (by omega)]
            exact HW2.out
          case measure => simp [intOf]; omega
        · have hold := rcN_odd s.data.toList j hpar
          have hset := rcL_odd s.data.toList j hpar
          have hq1 := hvL_lt HD.out (j - 1)
          rw [hvk, hold] at hset
          generalize hvL s.data.toList (j - 1) = q at *
          have hjn : (j + 1) / 2 = j / 2 + 1 := by omega
          rw [hjn] at hown
          have hcell := hown.cellAt (j / 2) (by omega)
          rw [List.getElem?_map, show (rcL s.data.toList j)[j / 2]? = some (UInt8.ofNat (16 * q)) from by
            unfold rcL; rw [List.getElem?_map, List.getElem?_range (by omega), ← hold]; rfl, show (Option.map xb (some (UInt8.ofNat (16 * q)))) = some (.int .u8 (16 * (q : Int))) from by rw [Option.map_some, xb_of _ (by omega)]; simp] at hcell
          have hfro := hown.frozenAt (j / 2)
          have hstd := hown.stored (j / 2) (xb (UInt8.ofNat (16 * q + dv c)))
          rw [← List.map_set, hset, xb_of _ (by omega)] at hstd
          rw [hpar, hjn]
          have HP := Lib.hid hpar
          have HS := Lib.hid hstd
          have HW := Lib.hid hown
          clear hstd hown hvk hpar hset hold hjn
          generalize hp : j / 2 = p at *
          have hsum : IntKind.u8.wrap (16 * (q : Int) + ((dv c : Nat) : Int)) = 16 * (q : Int) + ((dv c : Nat) : Int) := IntWalk.u8_in _ (by omega)
          go_wp2
          go_roundw
          case rel =>
            have hp2 := HP.out
            have hs1 := HS.out
            have ec : ((16 * q + dv c : Nat) : Int) = 16 * (q : Int) + ((dv c : Nat) : Int) := by omega
            rw [ec] at hs1
            refine ⟨k + 1, cap, g, by omega, by go_num, by rw [HN.out, show (j + 1) % 2 = 0 from by omega]; rfl, by rw [HN.out, show (j + 1 + 1) / 2 = p + 1 from by omega], ?_, ?_⟩
            · rw [HN.out, show (j + 1 + 1) / 2 = p + 1 from by omega]
              exact hs1.1
            · exact hb.grown hs1.2 hbz (by intro x hx; have := own_base HW.out; simp at hx; omega)
          case measure => simp [intOf]; omega
      · have hkn : k = s.size := by omega
        subst hkn
        have hn : (s.size + s.size % 2 + 1) / 2 = (s.size + 1) / 2 := by omega
        rw [hn] at hown ⊢
        have hcv : (convert 49 9 (.slice (some ⟨g, 0, none⟩) ((s.size + 1) / 2) cap)).run Try.prog wr = .ok (.string ⟨(packL s.data.toList).toArray⟩) wr := by
          have hl : rcL s.data.toList (s.size + s.size % 2) = packL s.data.toList := by
            have := rcL_end s.data.toList
            rwa [hsz] at this
          have hlen : (packL s.data.toList).length = (s.size + 1) / 2 := by rw [packL_length, hsz]
          have h := run_convert_bytes_back (P := Try.prog) wr 49 9 5 ⟨g, 0, none⟩ cap (packL s.data.toList) Try.underlying49 Try.underlying5 Try.underlying9 (by
            intro i hi
            rw [hl] at hown
            have hc := hown.cellAt i (by omega)
            rw [show (⟨g, 0, none⟩ : Addr).add i = ⟨g, i, none⟩ from by rw [Addr.add_lit, Nat.zero_add], hc]
            simp [xb, hi])
          rw [hlen] at h
          exact h
        clear hown
        generalize (s.size + 1) / 2 = n at *
        go_wp2
        go_ret2
        exact ⟨rfl, hb⟩

theorem brefPut_any (s : ByteArray) (w : World) (hs : s.size ≤ maxLen) :
    Calls Try.prog 20 #[.string s] w fun e w' => e = .returned (.tuple #[.string (bputS s.data.toList), .bool (bputB s.data.toList)]) ∧ Below w.heap.size w w' := by
  cases h : bputB s.data.toList
  · rw [bputS_no h]; exact brefPut_no s w hs h
  · rw [bputS_yes h]; exact brefPut_yes s w h

end Go.Proofs.Ytafcdokgjkfikaa
