/-
  The law StrictMore: for every argument, in every world that holds the table of kinds (what the program's Decode answers is shown in StcDec).
-/
import Derived.Test.YtlkpiapmdflahaaDoorStcLawM
import Derived.Test.YtlkpiapmdflahaaDoorStcDec
namespace Go.Proofs.YtlkpiapmdflahaaDoor
open Go.RowKit

theorem smore_row (st v : Int) (A : Option Addr) (cap : Nat) (sl : List Sp) (m : ByteArray) (B : Option Addr) (c : Nat) (l : List Item) (more : ByteArray) (w : World) (hK : Kinds w) (hI : Spl w A sl) (_h1 : sl.length ≤ maxLen) (_hm : m.size ≤ maxLen) (hL : Tlvs w B l) (_h2 : l.length ≤ maxLen) (hf : ∀ x ∈ l, x.2.size ≤ maxLen) (_hb : more.size ≤ maxLen) :
    Calls Tryd.prog 8 #[.agg #[.int .i64 st, .int .i64 v, .slice A sl.length cap], .agg #[.string m, .slice B l.length c], .string more] w fun e w' => e = .returned (.bool true) ∧ Below w.heap.size w w' :=
  smore_walk sdec_any st v A cap sl m B c l more w hK hI hL hf

end Go.Proofs.YtlkpiapmdflahaaDoor
