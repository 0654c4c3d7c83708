/-
  For every side, message and fault the law RejectEchoes returns true, and its arguments read as they did; the table of kinds that the program reads is tied to the program's own text.
  Conditions: none beyond the statement's own.
-/
import Derived.Test.YtnbllngljgmebaaDoorRows
import Derived.Test.YtnbllngljgmebaaDoorRejLawE
import Derived.Test.YtnbllngljgmebaaDoorClsLaid
import Derived.WalkKit
import Derived.ProofKit
import Derived.OpenShut
import Derived.ShutString
import Derived.Carry
import Derived.Test.YtnbllngljgmebaaDoorRowMsg
import Derived.Test.YtnbllngljgmebaaDoorRowSide
import Derived.Test.YtnbllngljgmebaaDoorCards
import Derived.Test.YtnbllngljgmebaaDoorTie
import Derived.LaidMore
import Derived.Stop.Joined
import Derived.SevenTiedAt
namespace Go.Proofs.YtnbllngljgmebaaDoor
open Go.ChangeShapes Go.WideShapes Go.ChangeAt Go.RowKit
open Go.ChangeMaps (open_string shut_string)

theorem rejectEchoes_door (os : Os) (args : Array Value) : laidMetH Tryd.prog [("groat/class.kindsOf", Rows.laid_groat_class_kindsOf)] ((World.doorLaid Tryd.prog 14 os).forCall (fun _ _ => 0) ⟨#[], args, []⟩).memory :=
  laidMetH_of_parts3 (fuel := 8) (laidMet_of_run' 8 (by kernel_rfl) (by kernel_rfl)) (by kernel_rfl) (by kernel_rfl)

set_option linter.unusedVariables false in
set_option maxRecDepth 100000 in
theorem rejectEchoes_lifted (os : Os) (started : os.Started) (H : Type) (enc : TypeId × Value → H) :
    ReturnsInHanded {} Tryd.checked os 7 .any (fun w args => (Rows.rejectEchoesSpec.pre enc Tryd.prog Tryd.f7 [] false w args ∧ laidMetH Tryd.prog [("groat/class.kindsOf", Rows.laid_groat_class_kindsOf)] w) ∧ sizedMet enc Tryd.prog Tryd.f7 (OpenSpec.ofChange Rows.rejectEchoesSpec) false w args) (Rows.rejectEchoesSpec.post enc Tryd.prog Tryd.f7 false true false false) := by
  refine returnsInHanded_of_change_and (C := Tryd.checked) (X := fun w _ => laidMetH Tryd.prog [("groat/class.kindsOf", Rows.laid_groat_class_kindsOf)] w) (fun _ _ _ hh h => h.of_heap hh) (show ownKnob Tryd.prog.godebug = none by kernel_rfl) started (by kernel_rfl) Tryd.func7
    (ChangeSpec.witness_shaped (enc := enc) (C := Tryd.checked) (os := os) (X := fun w _ => laidMetH Tryd.prog [("groat/class.kindsOf", Rows.laid_groat_class_kindsOf)] w) false (World.doorLaid Tryd.prog 14 os) #[.agg #[.int .i64 0, .int .i64 0, .slice none 0 0, .slice none 0 0, .slice none 0 0, .slice none 0 0, .slice none 0 0], .agg #[.string ByteArray.empty, .slice none 0 0], .agg #[.int .i64 0, .int .i64 0]] 8 rfl (World.shaped_of_RefB (by kernel_rfl) (by kernel_rfl)) (by kernel_rfl) (by kernel_rfl) (by kernel_rfl) (rejectEchoes_door os _)) ?_
  intro W base args ds gs before hval0 hW _ hz hL _
  have hval : ∀ (j : Nat) t v, Tryd.f7.params[j]? = some t → args[j]? = some v → Value.okWide Tryd.prog W .any base t v := hval0
  have hW' := hW
  obtain ⟨p, q, hA0, hV, rfl, hfz, hnd⟩ := hW
  have hA : DataW.TrodAll enc Tryd.prog W 0 (fun _ => true) true Tryd.f7.params.toList args.toList ds p := hA0
  rw [Tryd.params7] at hA hval
  obtain ⟨v0, vs0, d0, ds0, p0, q0, hargs, rfl, rfl, h0, r0⟩ := trodAll_cons hA
  obtain ⟨v1, vs1, d1, ds1, p1, q1, rfl, rfl, rfl, h1, r1⟩ := trodAll_cons r0
  obtain ⟨v2, vs2, d2, ds2, p2, q2, rfl, rfl, rfl, h2, r2⟩ := trodAll_cons r1
  obtain ⟨rfl, rfl, rfl⟩ := trodAll_nil r2
  obtain rfl : args = #[v0, v1, v2] := by cases args; simp_all
  obtain ⟨rfl, rfl⟩ := trodVars_none hV
  have k0 := h0
  obtain ⟨a0s, a0v, A0, cA0, z0, X0, nM0, cM0, Y0, nR0, cR0, B0, cB0, E0, D0, cD0, C0, rfl, i0, m0, i0', m0', u0', w0', i0'', m0'', u0'', w0''⟩ := open_side (hval 0 32 v0 rfl rfl) h0
  have k1 := h1
  obtain ⟨a1m, A1, c1, z1, rfl, w1, i1, m1, f1, u1⟩ := open_message (hval 1 45 v1 rfl rfl) h1
  have k2 := h2
  obtain ⟨a2e, a2f, rfl, _, _⟩ := open_fault (hval 2 47 v2 rfl rfl) h2
  clear hA0 hval0
  simp only [List.append_nil] at hW'
  have hlt0 : ∀ x ∈ p0, x.block < W.heap.size := fun x hx => by simpa using hW'.lt x (by simp [hx])
  have y0 := side_more k0 (fun x hx => by simpa using List.all_eq_true.1 hz x (DataW.weights_mem_each (j := 0) rfl rfl x hx))
  have hlt1 : ∀ x ∈ p1, x.block < W.heap.size := fun x hx => by simpa using hW'.lt x (by simp [hx])
  have y1 := message_more k1 i1 (fun x hx => by simpa using List.all_eq_true.1 hz x (DataW.weights_mem_each (j := 1) rfl rfl x hx))
  have hlt2 : ∀ x ∈ p2, x.block < W.heap.size := fun x hx => by simpa using hW'.lt x (by simp [hx])
  refine (rjechoes_row a0s a0v A0 cA0 z0 X0 nM0 cM0 Y0 nR0 cR0 B0 cB0 E0 D0 cD0 C0 a1m A1 c1 z1 a2e a2f W (kinds_of_laid (by kernel_rfl) (by simp) hL) i0 m0 i0' m0' u0' w0' i0'' m0'' u0'' w0'' y0 w1 i1 m1 f1 y1.1 y1.2).mono fun e W' ⟨he, bel⟩ => ?_
  subst he
  exact ⟨_, rfl, _, _, _, [], _, [], hW', trodAll_mk1 (shut_bool Tryd.underlying4 _), (trodAll_cons_mk (Below.trod (show laidOutB Tryd.prog = true by kernel_rfl) (by kernel_rfl) (of_decide_eq_true (by kernel_rfl)) k0 bel hlt0) (trodAll_cons_mk (Below.trod (show laidOutB Tryd.prog = true by kernel_rfl) (by kernel_rfl) (of_decide_eq_true (by kernel_rfl)) k1 bel hlt1) (trodAll_cons_mk (Below.trod (show laidOutB Tryd.prog = true by kernel_rfl) (by kernel_rfl) (of_decide_eq_true (by kernel_rfl)) k2 bel hlt2) trodAll_mk0))), rfl, bel.frame _, fun h => by cases h⟩

theorem rejectEchoesRow_holds : Rows.RejectEchoesSaid :=
  OpenClaim.holds_of_wide 7 Tryd.f7 rfl rfl rfl rfl rfl rfl rfl ⟨rfl, rfl, rfl, rfl, rfl⟩ rfl rfl rfl rfl rfl (by kernel_rfl) Tryd.func7 (by kernel_rfl)
    (of_decide_eq_true (by kernel_rfl)) (by unfold Func.isWrapper; first | (rw [if_pos (by decide +kernel)]; kernel_rfl) | (rw [if_neg (by decide +kernel)]; exact ⟨rfl, rfl⟩))
    (fun os started H enc _ => rejectEchoes_lifted os started H enc)

theorem rejectEchoes_holds : Rows.RejectEchoesCardSaid :=
  Claim7.holds_tied_plain_at .later [] [.data] true (true, "aadd83ee913d04d8e13ea132d7cbc396460f9fc709f5ebd9313e14b228aa3bc3") false
    rejectEchoesRow_holds (fun _ h => by cases h) (by kernel_rfl) (fun _ h => by cases h) rejectEchoes_row_tie rfl ⟨rfl, rfl⟩ (by kernel_rfl) rfl
    (fun f fn hf hfn => by
      obtain rfl : f = 7 := Option.some.inj ((show Tryd.prog.funcNamed "groat/groatlaw23.RejectEchoes" = some 7 by kernel_rfl).symm.trans hf) |>.symm
      obtain rfl : fn = Tryd.f7 := (Option.some.inj (Tryd.func7.symm.trans hfn)).symm
      exact ⟨by kernel_rfl, fun j t ht => by
        rw [Tryd.params7] at ht
        have hm : t ∈ [32, 45, 47] := by simpa using Array.mem_of_getElem? ht
        have hall : ([32, 45, 47].all fun u => !Tryd.prog.wantsStandIn u) = true := by kernel_rfl
        exact (show Tryd.prog.wantsStandIn t = false by simpa using List.all_eq_true.1 hall t hm)⟩)
    (by kernel_rfl)

end Go.Proofs.YtnbllngljgmebaaDoor
