/-
  The laws of stage 20 in the form of their rows: what the program's Check and Apply answer is proved in RulChk and RulDo.
-/
import Derived.Test.YtkbpinjcenfjlaaDoorRulLawC
import Derived.Test.YtkbpinjcenfjlaaDoorRulLawA
import Derived.Test.YtkbpinjcenfjlaaDoorRulLawV
import Derived.Test.YtkbpinjcenfjlaaDoorRulLawS
import Derived.Test.YtkbpinjcenfjlaaDoorRulChk
import Derived.Test.YtkbpinjcenfjlaaDoorRulDo
namespace Go.Proofs.YtkbpinjcenfjlaaDoor
open Go.RowKit

theorem rchecks_row (k f t : Int) (s : ByteArray) (B : Option Addr) (cP : Nat) (P : List PairT) (st v : Int) (A : Option Addr) (ca : Nat) (a : List Sp) (st' v' : Int) (A' : Option Addr) (cb : Nat) (b : List Sp) (w : World) (hK : Kinds w) (hs : s.size ≤ maxLen) (hP : Prs w B P) (hmP : P.length ≤ maxLen) (hf : Fit2 P) (hA : Spl w A a) (hma : a.length ≤ maxLen) (hB : Spl w A' b) (hmb : b.length ≤ maxLen) :
    Calls Tryd.prog 3 #[.agg #[.int .i64 k, .int .i64 f, .int .i64 t, .string s, .slice B P.length cP], .agg #[.int .i64 st, .int .i64 v, .slice A a.length ca], .agg #[.int .i64 st', .int .i64 v', .slice A' b.length cb]] w fun e w' => e = .returned (.bool true) ∧ Below w.heap.size w w' :=
  ruleChecks_walk rchk_any rapp_any k f t s B cP P st v A ca a st' v' A' cb b w hK hP hA hB hmP hma hmb hf hs
theorem rapplies_row (k f t : Int) (s : ByteArray) (B : Option Addr) (cP : Nat) (P : List PairT) (st v : Int) (A : Option Addr) (ca : Nat) (b : List Sp) (x : ByteArray) (w : World) (hK : Kinds w) (hs : s.size ≤ maxLen) (hP : Prs w B P) (hmP : P.length ≤ maxLen) (hf : Fit2 P) (hA : Spl w A b) (hmb : b.length ≤ maxLen) (hx : x.size ≤ maxLen) :
    Calls Tryd.prog 4 #[.agg #[.int .i64 k, .int .i64 f, .int .i64 t, .string s, .slice B P.length cP], .agg #[.int .i64 st, .int .i64 v, .slice A b.length ca], .string x] w fun e w' => e = .returned (.bool true) ∧ Below w.heap.size w w' :=
  ruleApply_walk rchk_any rapp_any k f t s B cP P st v A ca b x w hK hP hA hmP hmb hf hs hx
theorem rvalid_row (k f t : Int) (s : ByteArray) (B : Option Addr) (cP : Nat) (P : List PairT) (st v : Int) (A : Option Addr) (ca : Nat) (a : List Sp) (st' v' : Int) (A' : Option Addr) (cb : Nat) (b : List Sp) (x : ByteArray) (w : World) (hK : Kinds w) (hs : s.size ≤ maxLen) (hP : Prs w B P) (hmP : P.length ≤ maxLen) (hf : Fit2 P) (hA : Spl w A a) (hma : a.length ≤ maxLen) (hB : Spl w A' b) (hmb : b.length ≤ maxLen) (hx : x.size ≤ maxLen) :
    Calls Tryd.prog 5 #[.agg #[.int .i64 k, .int .i64 f, .int .i64 t, .string s, .slice B P.length cP], .agg #[.int .i64 st, .int .i64 v, .slice A a.length ca, .int .i64 st', .int .i64 v', .slice A' b.length cb], .string x] w fun e w' => e = .returned (.bool true) ∧ Below w.heap.size w w' :=
  ruleValid_walk rchk_any rapp_any k f t s B cP P st v A ca a st' v' A' cb b x w hK hP hA hB hmP hma hmb hf hs hx
theorem rsame_row (st v : Int) (A : Option Addr) (ca : Nat) (l : List Sp) (no : Int) (x : ByteArray) (w : World) (hK : Kinds w) (hA : Spl w A l) (hm : l.length ≤ maxLen) (_ : -9223372036854775808 ≤ no) (_ : no ≤ 9223372036854775807) (hx : x.size ≤ maxLen) :
    Calls Tryd.prog 6 #[.agg #[.int .i64 st, .int .i64 v, .slice A l.length ca], .int .i64 no, .string x] w fun e w' => e = .returned (.bool true) ∧ Below w.heap.size w w' :=
  ruleSame_walk rchk_any rapp_any st v A ca l no x w hK hA hm hx

end Go.Proofs.YtkbpinjcenfjlaaDoor
