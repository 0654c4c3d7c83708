/-
  The law StrictOne: for every argument, in every world that holds the table of kinds (what the program's Decode answers is shown in StcDec).
-/
import Derived.Test.YtlkpiapmdflahaaDoorStcLawO
import Derived.Test.YtlkpiapmdflahaaDoorStcDec
namespace Go.Proofs.YtlkpiapmdflahaaDoor
open Go.RowKit

theorem sone_row (st v : Int) (A : Option Addr) (cap : Nat) (sl : List Sp) (b : ByteArray) (w : World) (hK : Kinds w) (hI : Spl w A sl) (_h1 : sl.length ≤ maxLen) (_hb : b.size ≤ maxLen) :
    Calls Tryd.prog 5 #[.agg #[.int .i64 st, .int .i64 v, .slice A sl.length cap], .string b] w fun e w' => e = .returned (.bool true) ∧ Below w.heap.size w w' :=
  sone_walk sdec_any st v A cap sl b w hK hI

end Go.Proofs.YtlkpiapmdflahaaDoor
