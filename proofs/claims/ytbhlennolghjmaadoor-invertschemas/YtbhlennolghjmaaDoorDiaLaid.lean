/-
  From the row's condition on listed variables to what the walks ask: the two tables of specs.
-/
import Derived.Test.YtbhlennolghjmaaDoorPackDia
import Derived.OpenShut
import Derived.ChangeArms
import Derived.WideShapes
import Derived.Lib.LaidU8
import Derived.MakeChecks
namespace Go.Proofs.YtbhlennolghjmaaDoor
open Go.ChangeShapes Go.WideShapes Go.RowKit

section
variable {H : Type} {enc : TypeId × Value → H} {w : World} {base : Nat} {sp : Nat → Bool} {held : Bool}

def spD (x : Sp) : DataW H := .agg [.lit (.int .i64 x.1), .lit (.int .i64 x.2.1), .lit (.int .i64 x.2.2.1), .lit (.int .i64 x.2.2.2.1), .lit (.int .i64 x.2.2.2.2)]
def spsD (l : List Sp) : DataW H := .agg (l.map spD)

set_option maxRecDepth 100000 in
/-- A spec's cells, out of what they read as. -/
theorem cells_of_spec {fuel : Nat} {cs : List Value} {x : Sp} {p : List MemPlace} (h : DataW.trod enc Tryd.prog w base sp held fuel 70 cs = some (spD x, p)) : cs = spC x := by
  have hC : Tryd.prog.cellsOf 70 = 5 := by kernel_rfl
  have c1 : Tryd.prog.cellsOf 3 = 1 := by kernel_rfl
  obtain ⟨xs, m, _, hx, hcl, hlen, hg⟩ := DataW.trod_struct Tryd.underlying70 h
  rw [hC] at hcl
  have hx1 : xs.map (fun y => y.1) = [.lit (.int .i64 x.1), .lit (.int .i64 x.2.1), .lit (.int .i64 x.2.2.1), .lit (.int .i64 x.2.2.2.1), .lit (.int .i64 x.2.2.2.2)] := by
    have := congrArg Prod.fst hx
    simp only [spD] at this
    injection this with this
    exact this.symm
  match cs, hcl with
  | [v0, v1, v2, v3, v4], _ =>
    match xs, hx1 with
    | [y0, y1, y2, y3, y4], hx1 =>
      simp only [List.map_cons, List.map_nil, List.cons.injEq, and_true] at hx1
      obtain ⟨e0, e1, e2, e3, e4⟩ := hx1
      have g0 : DataW.trod enc Tryd.prog w base sp held m 3 (([v0, v1, v2, v3, v4].drop 0).take (Tryd.prog.cellsOf 3)) = some y0 := hg 0 _ rfl
      have g1 : DataW.trod enc Tryd.prog w base sp held m 3 (([v0, v1, v2, v3, v4].drop 1).take (Tryd.prog.cellsOf 3)) = some y1 := hg 1 _ rfl
      have g2 : DataW.trod enc Tryd.prog w base sp held m 3 (([v0, v1, v2, v3, v4].drop 2).take (Tryd.prog.cellsOf 3)) = some y2 := hg 2 _ rfl
      have g3 : DataW.trod enc Tryd.prog w base sp held m 3 (([v0, v1, v2, v3, v4].drop 3).take (Tryd.prog.cellsOf 3)) = some y3 := hg 3 _ rfl
      have g4 : DataW.trod enc Tryd.prog w base sp held m 3 (([v0, v1, v2, v3, v4].drop 4).take (Tryd.prog.cellsOf 3)) = some y4 := hg 4 _ rfl
      rw [c1] at g0 g1 g2 g3 g4
      obtain ⟨a, ha, fa, _⟩ := DataW.trod_int Tryd.underlying3 g0
      obtain ⟨b, hb, fb, _⟩ := DataW.trod_int Tryd.underlying3 g1
      obtain ⟨c, hc, fc, _⟩ := DataW.trod_int Tryd.underlying3 g2
      obtain ⟨d, hd, fd, _⟩ := DataW.trod_int Tryd.underlying3 g3
      obtain ⟨e, he, fe, _⟩ := DataW.trod_int Tryd.underlying3 g4
      subst fa fb fc fd fe
      simp at ha hb hc hd he e0 e1 e2 e3 e4
      simp [spC, ha, hb, hc, hd, he, e0, e1, e2, e3, e4]

set_option maxRecDepth 100000 in
/-- A table's cells, out of what they read as. -/
theorem cells_of_sps {fuel n : Nat} {t : TypeId} {cs : List Value} {l : List Sp} {p : List MemPlace} (ht : Tryd.prog.underlying t = some (.array n 70)) (hct : Tryd.prog.cellsOf t = n * 5)
    (h : DataW.trod enc Tryd.prog w base sp held fuel t cs = some (spsD l, p)) : cs = spsC l := by
  have hce : Tryd.prog.cellsOf 70 = 5 := by kernel_rfl
  cases fuel with
  | zero => simp [DataW.trod] at h
  | succ fuel =>
    simp only [DataW.trod, ht, hce, hct] at h
    split at h
    · rename_i hl
      obtain ⟨xs, hm, hx⟩ := Option.map_eq_some_iff.1 h
      have hxs : xs.map (·.1) = l.map spD := by
        have := congrArg Prod.fst hx
        simpa [spsD] using this
      have hxl : xs.length = n := by simpa using Lib.mapM_length hm
      have hln : l.length = n := by
        have := congrArg List.length hxs
        simp at this
        omega
      have hcl : cs.length = n * 5 := by simpa using hl
      apply List.ext_getElem?
      intro j
      by_cases hj : j < n * 5
      · have hi : j / 5 < n := by omega
        obtain ⟨b, hb, hf⟩ := Lib.mapM_at hm (j / 5) (j / 5) (by simp [hi])
        have hb1 : b.1 = spD (spAt l (j / 5)) := by
          have h1 := congrArg (·[j / 5]?) hxs
          simp only [List.getElem?_map, hb, Option.map_some] at h1
          rw [List.getElem?_eq_getElem (by omega), Option.map_some] at h1
          rw [spAt_get (by omega)]
          exact Option.some.inj h1
        obtain ⟨b1, b2⟩ := b
        dsimp only at hb1
        subst hb1
        have hc := cells_of_spec hf
        have h1 : cs[j]? = (spC (spAt l (j / 5)))[j % 5]? := by
          rw [← hc, List.getElem?_take, if_pos (by omega), List.getElem?_drop]
          congr 1
          omega
        rw [h1, ← spsC_at l (j / 5) (by omega) (j % 5) (by omega)]
        congr 1
        omega
      · rw [List.getElem?_eq_none (by omega), List.getElem?_eq_none (by rw [spsC_length]; omega)]
    · cases h
end

theorem acq_data : (Rows.laid_groat_dialect_acquirer : DataW Unit) = spsD acqL := rfl
theorem iss_data : (Rows.laid_groat_dialect_issuer : DataW Unit) = spsD issL := rfl
set_option maxRecDepth 100000 in
theorem table_of_var {W : World} {name : String} {g : Nat} {cs : Array Value} {l : List Sp} (hg : Tryd.prog.globalNamed name = some g) (hv : W.var? Tryd.prog name = some cs) (hc : cs.toList = spsC l) : Table W g l := by
  unfold World.var? at hv
  rw [hg, Option.bind_some] at hv
  have hc' : cs = (spsC l).toArray := by rw [← hc]
  cases hh : W.heap[g]? with
  | none => rw [hh] at hv; cases hv
  | some o =>
    rw [hh] at hv
    cases o with
    | cells xs t fr =>
      have : xs = cs := by simpa using hv
      subst this
      exact ⟨t, fr, by rw [hh, hc']⟩
    | _ => cases hv
set_option maxRecDepth 100000 in
theorem tabs_of_laid {l : List (String × DataW Unit)} (hp : (l.all fun x => x.2.handleName?.isNone) = true) (hm : ("groat/dialect.acquirer", Rows.laid_groat_dialect_acquirer) ∈ l ∧ ("groat/dialect.issuer", Rows.laid_groat_dialect_issuer) ∈ l) {W : World} (h : laidMetH Tryd.prog l W) : Tabs W := by
  rw [MakeChecks.laidMetH_plain _ _ _ hp] at h
  constructor
  · obtain ⟨g, t, cs, fuel, p, hg, ht, hv, hd⟩ := Lib.laidMet.reads h hm.1
    have g0 : Tryd.prog.globalNamed "groat/dialect.acquirer" = some 0 := by kernel_rfl
    have t0 : (Tryd.prog.globals[0]?).map (·.type) = some 89 := by kernel_rfl
    obtain rfl := Option.some.inj (g0.symm.trans hg)
    obtain rfl := Option.some.inj (t0.symm.trans ht)
    rw [acq_data] at hd
    exact table_of_var g0 hv (cells_of_sps Tryd.underlying89 (by kernel_rfl) hd)
  · obtain ⟨g, t, cs, fuel, p, hg, ht, hv, hd⟩ := Lib.laidMet.reads h hm.2
    have g0 : Tryd.prog.globalNamed "groat/dialect.issuer" = some 1 := by kernel_rfl
    have t0 : (Tryd.prog.globals[1]?).map (·.type) = some 90 := by kernel_rfl
    obtain rfl := Option.some.inj (g0.symm.trans hg)
    obtain rfl := Option.some.inj (t0.symm.trans ht)
    rw [iss_data] at hd
    exact table_of_var g0 hv (cells_of_sps Tryd.underlying90 (by kernel_rfl) hd)

end Go.Proofs.YtbhlennolghjmaaDoor
