/-
  What Put and the document's Put answer: for every number, in every world.
-/
import Derived.Test.YtmobillfeldcjaaDoorBerSmall
import Derived.Test.YtmobillfeldcjaaDoorObjs
namespace Go.Proofs.YtmobillfeldcjaaDoor
open Go.RowKit


end Go.Proofs.YtmobillfeldcjaaDoor
