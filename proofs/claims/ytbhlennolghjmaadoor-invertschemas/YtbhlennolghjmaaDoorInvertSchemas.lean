/-
  For every set of fields and every message the law InvertSchemas returns true, and its arguments read as they did; the tables that the program reads are tied to the program's own text.
  Conditions: none beyond the statement's own.
-/
import Derived.Test.YtbhlennolghjmaaDoorRows
import Derived.Test.YtbhlennolghjmaaDoorInvLawS
import Derived.Test.YtbhlennolghjmaaDoorClsLaid
import Derived.Test.YtbhlennolghjmaaDoorDiaLaid
import Derived.WalkKit
import Derived.ProofKit
import Derived.OpenShut
import Derived.ShutString
import Derived.Carry
import Derived.Test.YtbhlennolghjmaaDoorRowMsg
import Derived.Test.YtbhlennolghjmaaDoorCards
import Derived.Test.YtbhlennolghjmaaDoorTie
import Derived.LaidMore
import Derived.Stop.Joined
import Derived.SevenTiedAt
namespace Go.Proofs.YtbhlennolghjmaaDoor
open Go.ChangeShapes Go.WideShapes Go.ChangeAt Go.RowKit
open Go.ChangeMaps (open_string shut_string)

theorem invertSchemas_door (os : Os) (args : Array Value) : laidMetH Tryd.prog [("groat/class.kindsOf", Rows.laid_groat_class_kindsOf), ("groat/dialect.acquirer", Rows.laid_groat_dialect_acquirer), ("groat/dialect.issuer", Rows.laid_groat_dialect_issuer)] ((World.doorLaid Tryd.prog 78 os).forCall (fun _ _ => 0) ⟨#[], args, []⟩).memory :=
  laidMetH_of_parts3 (fuel := 8) (laidMet_of_run' 8 (by kernel_rfl) (by kernel_rfl)) (by kernel_rfl) (by kernel_rfl)

set_option linter.unusedVariables false in
set_option maxRecDepth 100000 in
theorem invertSchemas_lifted (os : Os) (started : os.Started) (H : Type) (enc : TypeId × Value → H) :
    ReturnsInHanded {} Tryd.checked os 6 .any (fun w args => (Rows.invertSchemasSpec.pre enc Tryd.prog Tryd.f6 [] false w args ∧ laidMetH Tryd.prog [("groat/class.kindsOf", Rows.laid_groat_class_kindsOf), ("groat/dialect.acquirer", Rows.laid_groat_dialect_acquirer), ("groat/dialect.issuer", Rows.laid_groat_dialect_issuer)] w) ∧ sizedMet enc Tryd.prog Tryd.f6 (OpenSpec.ofChange Rows.invertSchemasSpec) false w args) (Rows.invertSchemasSpec.post enc Tryd.prog Tryd.f6 false true false false) := by
  refine returnsInHanded_of_change_and (C := Tryd.checked) (X := fun w _ => laidMetH Tryd.prog [("groat/class.kindsOf", Rows.laid_groat_class_kindsOf), ("groat/dialect.acquirer", Rows.laid_groat_dialect_acquirer), ("groat/dialect.issuer", Rows.laid_groat_dialect_issuer)] w) (fun _ _ _ hh h => h.of_heap hh) (show ownKnob Tryd.prog.godebug = none by kernel_rfl) started (by kernel_rfl) Tryd.func6
    (ChangeSpec.witness_shaped (enc := enc) (C := Tryd.checked) (os := os) (X := fun w _ => laidMetH Tryd.prog [("groat/class.kindsOf", Rows.laid_groat_class_kindsOf), ("groat/dialect.acquirer", Rows.laid_groat_dialect_acquirer), ("groat/dialect.issuer", Rows.laid_groat_dialect_issuer)] w) false (World.doorLaid Tryd.prog 78 os) #[.int .u64 0, .int .u64 0, .agg #[.string ByteArray.empty, .slice none 0 0]] 8 rfl (World.shaped_of_RefB (by kernel_rfl) (by kernel_rfl)) (by kernel_rfl) (by kernel_rfl) (by kernel_rfl) (invertSchemas_door os _)) ?_
  intro W base args ds gs before hval0 hW _ _ hL _
  have hval : ∀ (j : Nat) t v, Tryd.f6.params[j]? = some t → args[j]? = some v → Value.okWide Tryd.prog W .any base t v := hval0
  have hW' := hW
  obtain ⟨p, q, hA0, hV, rfl, hfz, hnd⟩ := hW
  have hA : DataW.TrodAll enc Tryd.prog W 0 (fun _ => true) true Tryd.f6.params.toList args.toList ds p := hA0
  rw [Tryd.params6] at hA hval
  obtain ⟨v0, vs0, d0, ds0, p0, q0, hargs, rfl, rfl, h0, r0⟩ := trodAll_cons hA
  obtain ⟨v1, vs1, d1, ds1, p1, q1, rfl, rfl, rfl, h1, r1⟩ := trodAll_cons r0
  obtain ⟨v2, vs2, d2, ds2, p2, q2, rfl, rfl, rfl, h2, r2⟩ := trodAll_cons r1
  obtain ⟨rfl, rfl, rfl⟩ := trodAll_nil r2
  obtain rfl : args = #[v0, v1, v2] := by cases args; simp_all
  obtain ⟨rfl, rfl⟩ := trodVars_none hV
  obtain ⟨a0, rfl, rfl, rfl, w0⟩ := open_int Tryd.underlying49 (hval 0 49 v0 rfl rfl) h0
  obtain ⟨a1, rfl, rfl, rfl, w1⟩ := open_int Tryd.underlying49 (hval 1 49 v1 rfl rfl) h1
  have k2 := h2
  obtain ⟨a2m, A2, c2, z2, rfl, w2, i2, m2, f2, u2⟩ := open_message (hval 2 41 v2 rfl rfl) h2
  clear hA0 hval0
  simp only [List.append_nil] at hW'
  have b0 := bounds_u64 w0
  have b1 := bounds_u64 w1
  have hlt2 : ∀ x ∈ p2, x.block < W.heap.size := fun x hx => by simpa using hW'.lt x (by simp [hx])
  refine (ischemas_row a0 a1 a2m A2 c2 z2 W (kinds_of_laid (by kernel_rfl) (by simp) hL) (tabs_of_laid (by kernel_rfl) (by simp) hL) b0.1 b0.2 b1.1 b1.2 w2 i2 m2 f2).mono fun e W' ⟨he, bel⟩ => ?_
  subst he
  exact ⟨_, rfl, _, _, _, [], _, [], hW', trodAll_mk1 (shut_bool Tryd.underlying4 _), (trodAll_cons_mk (shut_int Tryd.underlying49 w0) (trodAll_cons_mk (shut_int Tryd.underlying49 w1) (trodAll_cons_mk (Below.trod (show laidOutB Tryd.prog = true by kernel_rfl) (by kernel_rfl) (of_decide_eq_true (by kernel_rfl)) k2 bel hlt2) trodAll_mk0))), rfl, bel.frame _, fun h => by cases h⟩

theorem invertSchemasRow_holds : Rows.InvertSchemasSaid :=
  OpenClaim.holds_of_wide 6 Tryd.f6 rfl rfl rfl rfl rfl rfl rfl ⟨rfl, rfl, rfl, rfl, rfl⟩ rfl rfl rfl rfl rfl (by kernel_rfl) Tryd.func6 (by kernel_rfl)
    (of_decide_eq_true (by kernel_rfl)) (by unfold Func.isWrapper; first | (rw [if_pos (by decide +kernel)]; kernel_rfl) | (rw [if_neg (by decide +kernel)]; exact ⟨rfl, rfl⟩))
    (fun os started H enc _ => invertSchemas_lifted os started H enc)

theorem invertSchemas_holds : Rows.InvertSchemasCardSaid :=
  Claim7.holds_tied_plain_at .later [] [.data, .data, .data] true (true, "6630a203b2ed56a4bdfef386c603f17906b7a35e126e72836fcbed477039d4a2") false
    invertSchemasRow_holds (fun _ h => by cases h) (by kernel_rfl) (fun _ h => by cases h) invertSchemas_row_tie rfl ⟨rfl, rfl⟩ (by kernel_rfl) rfl
    (fun f fn hf hfn => by
      obtain rfl : f = 6 := Option.some.inj ((show Tryd.prog.funcNamed "groat/groatlaw22.InvertSchemas" = some 6 by kernel_rfl).symm.trans hf) |>.symm
      obtain rfl : fn = Tryd.f6 := (Option.some.inj (Tryd.func6.symm.trans hfn)).symm
      exact ⟨by kernel_rfl, fun j t ht => by
        rw [Tryd.params6] at ht
        have hm : t ∈ [49, 49, 41] := by simpa using Array.mem_of_getElem? ht
        have hall : ([49, 49, 41].all fun u => !Tryd.prog.wantsStandIn u) = true := by kernel_rfl
        exact (show Tryd.prog.wantsStandIn t = false by simpa using List.all_eq_true.1 hall t hm)⟩)
    (by kernel_rfl)

end Go.Proofs.YtbhlennolghjmaaDoor
