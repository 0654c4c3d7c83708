/-
  The law StrictCut: for every argument, in every world that holds the table of kinds (what the program's Decode answers is shown in StcDec).
-/
import Derived.Test.YtlkpiapmdflahaaDoorStcLawC
import Derived.Test.YtlkpiapmdflahaaDoorStcDec
namespace Go.Proofs.YtlkpiapmdflahaaDoor
open Go.RowKit

theorem scut_row (st v : Int) (A : Option Addr) (cap : Nat) (sl : List Sp) (m : ByteArray) (B : Option Addr) (c : Nat) (l : List Item) (k : Int) (w : World) (hK : Kinds w) (hI : Spl w A sl) (_h1 : sl.length ≤ maxLen) (_hm : m.size ≤ maxLen) (hL : Tlvs w B l) (_h2 : l.length ≤ maxLen) (hf : ∀ x ∈ l, x.2.size ≤ maxLen) (hc : l.length ≤ c) (_k1 : -9223372036854775808 ≤ k) (_k2 : k ≤ 9223372036854775807) :
    Calls Tryd.prog 7 #[.agg #[.int .i64 st, .int .i64 v, .slice A sl.length cap], .agg #[.string m, .slice B l.length c], .int .i64 k] w fun e w' => e = .returned (.bool true) ∧ Below w.heap.size w w' :=
  scut_walk sdec_any st v A cap sl m B c l k w hK hI hL hf hc

end Go.Proofs.YtlkpiapmdflahaaDoor
